/- Load of a binary's word. What is not reached is given back: with words that are handed in. -/
import Derived.Test.YtkcmfldcdokobaaGreatDoorM24
import Derived.Test.YtkcmfldcdokobaaGreatDoorM39
import Derived.Test.YtkcmfldcdokobaaGreatDoorM40
import Derived.Test.YtkcmfldcdokobaaGreatDoorM43
import Derived.Test.YtkcmfldcdokobaaGreatDoorM45
import Derived.Deep.DeepCutAuto
import Derived.Deep.CutBlock
import Derived.Deep.AppendLies
/- Load of a binary's word. -/
namespace Go.Proofs.YtkcmfldcdokobaaGreatDoor
open Go.RowKit Go.Maps

def binV (po : Option Addr) (m cap : Nat) : Value := .agg #[.int .i64 8, .int .i64 0, .string noS, .slice none 0 0, .slice none 0 0, .slice po m cap]
section
variable {w0 w w' : World} {col : Nat → Nat} {hb ab tb bb least N lb : Nat} {sv : Value} {sl : List (Int × Bool)} {A : Ar} {names : List ByteArray} {a : Bn} {q : Nat}

set_option maxHeartbeats 400000 in
theorem lmeet_ok {v0 : Value} {p n : Int} (h0 : w.heap[lb]? = some (.cells #[v0, .int .i64 p] 121 (0, 0))) (hp : 0 ≤ p) (hn : 0 ≤ n) (hpn : p + n ≤ 65536) :
    Calls Tryz.prog 100 #[.pointer (some ⟨lb, 0, none⟩), .int .i64 n] w fun e w' => e = .returned .nilIface ∧ w'.heap[lb]? = some (.cells #[v0, .int .i64 (p + n)] 121 (0, 0)) ∧ Kp (fun q => q = lb) w w' := by
  have c1 := cell_of h0 1
  have f1 := frozen_of h0 1
  have hs := Lib.hid (And.intro (heap_set_here h0 (i := 1) (.int .i64 (p + n))) ((Kp.refl (fun q => q = lb) w).setCell ⟨lb, 1, none⟩ (.int .i64 (p + n)) (.inl rfl)))
  clear h0
  go_enter Tryz.func100, Tryz.ntmps100
  go_wp2_with fail
  go_ret
  exact ⟨rfl, hs.out⟩

theorem Hs.aside1 (h : Hs w0 w col hb ab tb bb sv least sl A names N a) (hk : Kp (fun q => q = lb) w w') (hc : col lb = 0) (hw : w0.heap.size ≤ lb) : Hs w0 w' (recol col w 0) hb ab tb bb sv least sl A names N a :=
  h.aside hk (fun q e _ => by subst e; exact ⟨hc, hw⟩)

set_option maxRecDepth 100000 in
set_option maxHeartbeats 2000000 in
theorem lbin_ok (h : Hs w0 w col hb ab tb bb sv least sl A names N a) {p : Int} (hL : w.heap[lb]? = some (.cells #[.pointer (some ⟨hb, 0, none⟩), .int .i64 p] 121 (0, 0))) (hp : 0 ≤ p) (hq : A.tk q 4) {x : Int} {i : Nat} {s : Sl} (hf : FOk a x i s) (f m : Nat) (hblk : blkW A q 4 = [103, x * 8 + 6, (f : Int), (m : Int)]) (hfm : f + m ≤ s.bs.length) (hs : s.bs.length ≤ 1000000000000) (hpm : p + m ≤ 65536) :
    Calls Tryz.prog 105 #[.pointer (some ⟨lb, 0, none⟩), .int .i64 (q + 1)] w fun e w' => ∃ po cap, e = .returned (.tuple #[binV po m cap, .nilIface]) ∧ BytesAt (Own w.heap.size w') w' ((s.bs.drop f).take m) (.slice po m cap) ∧ Kp (fun q => q = lb) w w' := by
  have hx : handleOf (blkW A q 4) = some x := by rw [hblk]; exact handleOf_bin _ _ _
  have hll := (Array.getElem?_eq_some_iff.1 hL).1
  have hk0 : Kp (fun _ => False) w (w.alloc (.cells #[.int .i64 0, .int .i64 0, .string noS, .slice none 0 0, .slice none 0 0, .slice none 0 0] 41)) := (Kp.refl _ w).alloc _
  have hb0 := hbytes_ok (h.same hk0) hq hx hf f m (by rw [hblk]; rfl) (by rw [hblk]; rfl) hfm hs
  have c0 := cell_of ((hk0.block lb hll (fun e => e)).trans hL) 0
  have hz := heap_alloc_new w (.cells #[.int .i64 0, .int .i64 0, .string noS, .slice none 0 0, .slice none 0 0, .slice none 0 0] 41)
  have HF := Lib.hid (And.intro hb0 (And.intro hk0 (And.intro hL (And.intro hll hz))))
  clear h hq hf hblk hfm hs hx hb0 hk0 hL hz
  unfold noS at *
  go_enter Tryz.func105, Tryz.ntmps105
  go_wp2_with fail
  refine HF.out.1.mono ?_
  rintro e w1 ⟨po, cap, rfl, hby, hk1⟩
  have hL1 := ((HF.out.2.1.trans' hk1).block lb HF.out.2.2.2.1 (fun e => e)).trans HF.out.2.2.1
  have H1 := Lib.hid (And.intro hby hk1)
  clear hby hk1
  go_wp2_with fail
  refine (lmeet_ok hL1 hp (by omega) hpm).mono ?_
  rintro e w2 ⟨rfl, hL2, hk2⟩
  have hz1 := H1.out.2.size
  have hz2 := hk2.size
  have hr2 : w2.heap[w.heap.size]? = _ := (hk2.block w.heap.size (by simp at hz1; omega) (by have := HF.out.2.2.2.1; omega)).trans ((H1.out.2.block w.heap.size (by simp) (fun e => e)).trans HF.out.2.2.2.2)
  have d0 := cell_of hr2 0
  have d1 := cell_of hr2 1
  have d2 := cell_of hr2 2
  have d3 := cell_of hr2 3
  have d4 := cell_of hr2 4
  have d5 := cell_of hr2 5
  have fz := fun j => frozen_of hr2 j
  go_wp2_with fail
  obtain ⟨hsx, hkx⟩ := sixSet_any (c0 := .int .i64 8) (c1 := .int .i64 0) (c2 := .string ⟨#[]⟩) (c3 := .slice none 0 0) (c4 := .slice none 0 0) (c5 := .slice po m cap) hr2
  obtain ⟨W, hW⟩ : ∃ W, sixSet w2 w.heap.size (.int .i64 8) (.int .i64 0) (.string ⟨#[]⟩) (.slice none 0 0) (.slice none 0 0) (.slice po m cap) = W := ⟨_, rfl⟩
  rw [hW] at hsx hkx
  change bodyPost _ _ _ _ _ (sixSet w2 w.heap.size (.int .i64 8) (.int .i64 0) (.string ⟨#[]⟩) (.slice none 0 0) (.slice none 0 0) (.slice po m cap))
  rw [hW]
  have i0 := cell_of hsx 0
  have i1 := cell_of hsx 1
  have i2 := cell_of hsx 2
  have i3 := cell_of hsx 3
  have i4 := cell_of hsx 4
  have i5 := cell_of hsx 5
  refine bodyPost_ret (v := .tuple #[binV po m cap, .nilIface]) (by simp [results, Tryz.results105, go_sem, binV, noS, i0, i1, i2, i3, i4, i5]) rfl ?_
  have hkw := HF.out.2.1.trans' H1.out.2
  refine ⟨po, cap, rfl, H1.out.1.imp (fun q e => ⟨by have := e.1; simp at this; omega, by have := e.2; have := hk2.size; have := hkx.size; omega⟩) (cells_kp (((hk2.mono (G := fun q => q = lb ∨ q = w.heap.size) fun _ _ e => .inl e).trans' (hkx.mono fun _ _ e => .inr e))) (fun q e hq => by have := e.1; simp at this; rcases hq with rfl | rfl <;> omega)), (hkw.mono fun _ _ e => e.elim).trans' hk2 |>.trans (hkx.mono fun q hq e => .inr ⟨by omega, hq⟩)⟩

theorem formOf_bin (x f m : Int) : formOf [103, x * 8 + 6, f, m] = 4 := by
  unfold formOf
  have : markOf (([103, x * 8 + 6, f, m] : List Int)[0]?.getD 0) = some (4, 1) := by
    show markOf 103 = some (4, 1)
    decide
  rw [this]
  rfl
set_option maxRecDepth 100000 in
set_option maxHeartbeats 4000000 in
theorem lterm_bin (h : Hs w0 w col hb ab tb bb sv least sl A names N a) (hL : w.heap[lb]? = some (.cells #[.pointer (some ⟨hb, 0, none⟩), .int .i64 0] 121 (0, 0))) (hc : col lb = 0) (hw0 : w0.heap.size ≤ lb) (hq : A.tk q 4) {x : Int} {i : Nat} {s : Sl} (hf : FOk a x i s) (f m : Nat) (hblk : blkW A q 4 = [103, x * 8 + 6, (f : Int), (m : Int)]) (hfm : f + m ≤ s.bs.length) (hs : s.bs.length ≤ 1000000000000) (hpm : m ≤ 65535) :
    Calls Tryz.prog 60 #[.pointer (some ⟨lb, 0, none⟩), .int .u64 (((q : Int) + 1) * 8 + 5), .int .i64 1] w fun e w' => ∃ po cap, e = .returned (.tuple #[binV po m cap, .nilIface]) ∧ BytesAt (Own w.heap.size w') w' ((s.bs.drop f).take m) (.slice po m cap) ∧ Kp (fun q => q = lb) w w' := by
  have hll := (Array.getElem?_eq_some_iff.1 hL).1
  have hqb := (h.ar.blk hq).2.1
  have hlens := h.ar.lens
  have hql : (q : Int) + 1 ≤ 2000000 := by omega
  obtain ⟨X, hX, hX0, hX1⟩ : ∃ X : Int, ((q : Int) + 1) * 8 + 5 = X ∧ 0 ≤ X ∧ X ≤ 18446744073709551615 := ⟨_, rfl, by omega, by omega⟩
  have hand : bits BinOp.and IntKind.u64 X 7 = 5 := by rw [and_low3 X hX0 hX1]; omega
  have hk0 : Kp (fun _ => False) w (w.alloc (.cells #[.int .i64 0, .int .i64 0, .string ⟨#[]⟩, .slice none 0 0, .slice none 0 0, .slice none 0 0] 41)) := (Kp.refl _ w).alloc _
  have hz := heap_alloc_new w (.cells #[.int .i64 0, .int .i64 0, .string ⟨#[]⟩, .slice none 0 0, .slice none 0 0, .slice none 0 0] 41)
  have hm := lmeet_ok ((hk0.block lb hll (fun e => e)).trans hL) (n := 1) (by omega) (by omega) (by omega)
  have hh0 := h.same hk0
  have hc0 : recol col w 0 lb = 0 := by unfold recol; rw [if_pos hll]; exact hc
  have HF := Lib.hid (And.intro hm (And.intro hh0 (And.intro hc0 (And.intro hz (And.intro hk0 (And.intro hll (And.intro hX (And.intro hq hf))))))))
  have HB := Lib.hid (And.intro hblk (And.intro hfm (And.intro hs (And.intro hpm hw0))))
  rw [hX]
  clear h hL hc hw0 hq hf hblk hfm hs hpm hk0 hz hm hh0 hc0 hll hX hqb hlens
  go_enter Tryz.func60, Tryz.ntmps60
  go_wp2_with fail
  refine HF.out.1.mono ?_
  rintro e w1 ⟨rfl, hL1, hk1⟩
  have h1 := HF.out.2.1.aside1 hk1 HF.out.2.2.1 HB.out.2.2.2.2
  have c0 := cell_of hL1 0
  have c1 := h1.hr.cells.2.1
  have H1 := Lib.hid (And.intro h1 (And.intro hL1 hk1))
  clear h1 hL1 hk1
  go_wp2_with fail
  refine (plain_other X _ w1 hX0 hX1 (by have := HF.out.2.2.2.2.2.2.1; omega)).mono ?_
  rintro e w2 ⟨v2, rfl, rfl, hk2⟩
  have h2 := H1.out.1.same hk2
  have hL2 := (hk2.block lb (Array.getElem?_eq_some_iff.1 H1.out.2.1).1 (fun e => e)).trans H1.out.2.1
  have hkA : Kp (fun _ => False) w2 (w2.alloc (.cells #[.int .i64 0, .int .i64 0, .string ⟨#[]⟩, .slice none 0 0, .slice none 0 0, .slice none 0 0] 41)) := (Kp.refl _ w2).alloc _
  have H2 := Lib.hid (And.intro h2 (And.intro hL2 hk2))
  clear h2 hL2 hk2
  unfold termOf
  clear c0 c1
  go_upto_region 7 with (fail)
  obtain ⟨W3, hW3⟩ : ∃ W, w2.alloc (.cells #[.int .i64 0, .int .i64 0, .string ByteArray.empty, .slice none 0 0, .slice none 0 0, .slice none 0 0] 41) = W := ⟨_, rfl⟩
  have hk3 : Kp (fun _ => False) w2 W3 := by rw [← hW3]; exact (Kp.refl _ w2).alloc _
  rw [hW3]
  have h3 := H2.out.1.same hk3
  have hL3 := (hk3.block lb (Array.getElem?_eq_some_iff.1 H2.out.2.1).1 (fun e => e)).trans H2.out.2.1
  have c0 := cell_of hL3 0
  have hnm := named_ok h3.ar HF.out.2.2.2.2.2.2.2.1 X HF.out.2.2.2.2.2.2.1.symm
  have hfm := form_any h3.ar HF.out.2.2.2.2.2.2.2.1
  rw [HB.out.1, formOf_bin] at hfm
  have H3 := Lib.hid (And.intro hnm (And.intro hfm (And.intro h3 (And.intro hL3 hk3))))
  clear hnm hfm h3 hL3 hk3 hW3 hkA
  go_wp2_with fail
  refine H3.out.1.mono ?_
  rintro e w' ⟨rfl, rfl⟩
  go_wp2_with fail
  refine H3.out.2.1.mono ?_
  rintro e w4 ⟨rfl, hk4⟩
  have h4 := H3.out.2.2.1.same hk4
  have hL4 := (hk4.block lb (Array.getElem?_eq_some_iff.1 H3.out.2.2.2.1).1 (fun e => e)).trans H3.out.2.2.2.1
  have hbn := lbin_ok h4 hL4 (by omega) HF.out.2.2.2.2.2.2.2.1 HF.out.2.2.2.2.2.2.2.2 f m HB.out.1 HB.out.2.1 HB.out.2.2.1 (by have := HB.out.2.2.2.1; omega)
  have H4 := Lib.hid (And.intro hbn hk4)
  clear hbn h4 hL4 hk4 c0
  go_wp2_with fail
  refine H4.out.1.mono ?_
  rintro e w5 ⟨po, cap, rfl, hby, hk5⟩
  have hk25 : Kp (fun q => q = lb) w2 w5 := ((H3.out.2.2.2.2.trans' H4.out.2).mono fun _ _ e => e.elim).trans' hk5
  have hz1 := HF.out.2.2.2.2.1.size
  have hk15 : Kp (fun q => q = lb) w w5 := (((HF.out.2.2.2.2.1.mono fun _ _ e => e.elim).trans' H1.out.2.2).trans' (H2.out.2.2.mono fun _ _ e => e.elim)).trans' hk25
  have hr5 : w5.heap[w.heap.size]? = _ := (((H1.out.2.2.trans' (H2.out.2.2.mono fun _ _ e => e.elim)).trans' hk25).block w.heap.size (by simp) (by have := HF.out.2.2.2.2.2.1; omega)).trans HF.out.2.2.2.1
  have d0 := cell_of hr5 0
  have d1 := cell_of hr5 1
  have d2 := cell_of hr5 2
  have d3 := cell_of hr5 3
  have d4 := cell_of hr5 4
  have d5 := cell_of hr5 5
  have fz := fun j => frozen_of hr5 j
  have H5 := Lib.hid (And.intro hby (And.intro hk5 (And.intro hk15 (And.intro hk25 hr5))))
  clear hby hk5 hk15 hk25 hr5 hz1
  unfold binV
  go_wp2_with fail
  obtain ⟨hsx, hkx⟩ := sixSet_any (c0 := .int .i64 8) (c1 := .int .i64 0) (c2 := .string noS) (c3 := .slice none 0 0) (c4 := .slice none 0 0) (c5 := .slice po m cap) H5.out.2.2.2.2
  obtain ⟨W, hW⟩ : ∃ W, sixSet w5 w.heap.size (.int .i64 8) (.int .i64 0) (.string noS) (.slice none 0 0) (.slice none 0 0) (.slice po m cap) = W := ⟨_, rfl⟩
  rw [hW] at hsx hkx
  change bodyPost _ _ _ _ _ (sixSet w5 w.heap.size (.int .i64 8) (.int .i64 0) (.string noS) (.slice none 0 0) (.slice none 0 0) (.slice po m cap))
  rw [hW]
  have i0 := cell_of hsx 0
  have i1 := cell_of hsx 1
  have i2 := cell_of hsx 2
  have i3 := cell_of hsx 3
  have i4 := cell_of hsx 4
  have i5 := cell_of hsx 5
  refine bodyPost_ret (v := .tuple #[binV po m cap, .nilIface]) (by simp [results, Tryz.results60, go_sem, binV, i0, i1, i2, i3, i4, i5]) rfl ?_
  have z1 := H1.out.2.2.size
  have z2 := H2.out.2.2.size
  have z3 := H3.out.2.2.2.2.size
  have z4 := H4.out.2.size
  have z5 := hkx.size
  rw [World.size_alloc] at z1
  exact ⟨po, cap, rfl, H5.out.1.imp (fun q e => ⟨by have := e.1; omega, by have := e.2; omega⟩) (cells_kp hkx (fun q e hq => by have := e.1; omega)), H5.out.2.2.1.trans (hkx.mono fun q hq e => .inr ⟨by omega, hq⟩)⟩

set_option maxRecDepth 100000 in
set_option maxHeartbeats 2000000 in
/-- Load of the word of a binary's block -/
theorem load_bin (h : Hs w0 w col hb ab tb bb sv least sl A names N a) (hq : A.tk q 4) {x : Int} {i : Nat} {s : Sl} (hf : FOk a x i s) (f m : Nat) (hblk : blkW A q 4 = [103, x * 8 + 6, (f : Int), (m : Int)]) (hfm : f + m ≤ s.bs.length) (hs : s.bs.length ≤ 1000000000000) (hpm : m ≤ 65535) :
    Calls Tryz.prog 26 #[.pointer (some ⟨hb, 0, none⟩), .int .u64 (((q : Int) + 1) * 8 + 5)] w fun e w' => ∃ po cap, e = .returned (.tuple #[binV po m cap, .nilIface]) ∧ BytesAt (Own w.heap.size w') w' ((s.bs.drop f).take m) (.slice po m cap) ∧ Kp (fun _ => False) w w' := by
  have hb1 := h.kp.size
  obtain ⟨Wa, hWa⟩ : ∃ W, w.alloc (.cells #[.int .i64 0, .int .i64 0, .string ⟨#[]⟩, .slice none 0 0, .slice none 0 0, .slice none 0 0] 41) = W := ⟨_, rfl⟩
  have hka : Kp (fun _ => False) w Wa := by rw [← hWa]; exact (Kp.refl _ w).alloc _
  have hza : Wa.heap.size = w.heap.size + 1 := by rw [← hWa]; simp
  have hra := heap_alloc_new w (.cells #[.int .i64 0, .int .i64 0, .string ⟨#[]⟩, .slice none 0 0, .slice none 0 0, .slice none 0 0] 41)
  rw [hWa] at hra
  obtain ⟨Wb, hWb⟩ : ∃ W, Wa.alloc (.cells #[.pointer (some ⟨hb, 0, none⟩), .int .i64 0] 121) = W := ⟨_, rfl⟩
  have hkb : Kp (fun _ => False) Wa Wb := by rw [← hWb]; exact (Kp.refl _ Wa).alloc _
  have hL := heap_alloc_new Wa (.cells #[.pointer (some ⟨hb, 0, none⟩), .int .i64 0] 121)
  have hzb : Wb.heap.size = w.heap.size + 2 := by rw [← hWb]; simp; omega
  rw [hWb, hza] at hL
  have hrb := (hkb.block w.heap.size (by omega) (fun e => e)).trans hra
  have hkab := hka.trans' hkb
  have ht := lterm_bin (h.same hkab) hL (by unfold recol; rw [if_neg (by omega)]) (by omega) hq hf f m hblk hfm hs hpm
  obtain ⟨X, hX⟩ : ∃ X : Int, ((q : Int) + 1) * 8 + 5 = X := ⟨_, rfl⟩
  rw [hX] at ht ⊢
  rw [← hWb, ← hWa] at ht
  have HF := Lib.hid (And.intro ht (And.intro hkab (And.intro hrb (And.intro hzb (And.intro hWa hWb)))))
  clear h hq hf hblk hfm hs hpm hka hza hra hkb hL hzb hrb hkab ht hX hWa hWb hb1
  go_enter Tryz.func26, Tryz.ntmps26
  go_wp2_with fail
  refine HF.out.1.mono ?_
  rw [HF.out.2.2.2.2.1, HF.out.2.2.2.2.2]
  rintro e w1 ⟨po, cap, rfl, hby, hk1⟩
  have z1 := hk1.size
  have hzw := HF.out.2.2.2.1
  have hr1 := (hk1.block w.heap.size (by omega) (by omega)).trans HF.out.2.2.1
  have hrt := (Below.heap_alloc w1 (.cells #[.int .i64 8, .int .i64 0, .string noS, .slice none 0 0, .slice none 0 0, .slice po m cap] 41) w.heap.size (by omega)).trans hr1
  have ht1 := heap_alloc_new w1 (.cells #[.int .i64 8, .int .i64 0, .string noS, .slice none 0 0, .slice none 0 0, .slice po m cap] 41)
  have d0 := cell_of hrt 0
  have d1 := cell_of hrt 1
  have d2 := cell_of hrt 2
  have d3 := cell_of hrt 3
  have d4 := cell_of hrt 4
  have d5 := cell_of hrt 5
  have fz := fun j => frozen_of hrt j
  have e0 := cell_of ht1 0
  have e1 := cell_of ht1 1
  have e2 := cell_of ht1 2
  have e3 := cell_of ht1 3
  have e4 := cell_of ht1 4
  have e5 := cell_of ht1 5
  have hzt : (w1.alloc (.cells #[.int .i64 8, .int .i64 0, .string noS, .slice none 0 0, .slice none 0 0, .slice po m cap] 41)).heap.size = w1.heap.size + 1 := by simp
  have H1 := Lib.hid (And.intro hby (And.intro hk1 (And.intro hrt (And.intro z1 (And.intro hzw hzt)))))
  clear hby hk1 hrt hr1 ht1 hzt z1 hzw
  unfold binV
  go_wp2_with fail
  obtain ⟨hsx, hkx⟩ := sixSet_any (c0 := .int .i64 8) (c1 := .int .i64 0) (c2 := .string noS) (c3 := .slice none 0 0) (c4 := .slice none 0 0) (c5 := .slice po m cap) H1.out.2.2.1
  change bodyPost _ _ _ _ _ (sixSet (w1.alloc (.cells #[.int .i64 8, .int .i64 0, .string noS, .slice none 0 0, .slice none 0 0, .slice po m cap] 41)) w.heap.size (.int .i64 8) (.int .i64 0) (.string noS) (.slice none 0 0) (.slice none 0 0) (.slice po m cap))
  obtain ⟨W, hW⟩ : ∃ W, sixSet (w1.alloc (.cells #[.int .i64 8, .int .i64 0, .string noS, .slice none 0 0, .slice none 0 0, .slice po m cap] 41)) w.heap.size (.int .i64 8) (.int .i64 0) (.string noS) (.slice none 0 0) (.slice none 0 0) (.slice po m cap) = W := ⟨_, rfl⟩
  rw [hW] at hsx hkx ⊢
  have i0 := cell_of hsx 0
  have i1 := cell_of hsx 1
  have i2 := cell_of hsx 2
  have i3 := cell_of hsx 3
  have i4 := cell_of hsx 4
  have i5 := cell_of hsx 5
  refine bodyPost_ret (v := .tuple #[binV po m cap, .nilIface]) (by simp [results, Tryz.results26, go_sem, binV, i0, i1, i2, i3, i4, i5]) rfl ?_
  obtain ⟨g1, g2, g3, g4, g5, g6⟩ := H1.out
  have hkt : Kp (fun q => q = w.heap.size) w1 W := ((Kp.refl _ w1).alloc _).trans' hkx
  have z5 := hkx.size
  refine ⟨po, cap, rfl, g1.imp (fun q e => ⟨by have := e.1; omega, by have := e.2; omega⟩) (cells_kp hkt (fun q e hq => by have := e.1; omega)), ?_⟩
  exact (HF.out.2.1.trans (g2.mono fun q hq e => .inr ⟨by omega, hq⟩)).trans (hkt.mono fun q hq e => .inr ⟨by omega, hq⟩)
end
end Go.Proofs.YtkcmfldcdokobaaGreatDoor

/- What is not reached is given back: with words that are handed in. -/
namespace Go.Proofs.YtkcmfldcdokobaaGreatDoor
open Go.RowKit Go.Maps

section
variable {w0 w w' w1 w2 : World} {col col1 col2 : Nat → Nat} {hb ab tb bb least N : Nat} {sv : Value} {sl : List (Int × Bool)} {A A' : Ar} {names : List ByteArray} {a a' : Bn}
set_option maxRecDepth 100000 in
set_option maxHeartbeats 1000000 in
theorem collect_more (h : Hs w0 w col hb ab tb bb sv least sl A names N a) (hN : N ≤ 90000000000000) (hL : sl.length ≤ 1000000000) (hw0 : ∀ x ∈ heldTo sl sl.length, 0 ≤ x ∧ x ≤ 18446744073709551615)
    (ys : List Int) (mg mo mcap : Nat) (hy : ∀ j x, ys[j]? = some x → w.cell? ⟨mg, mo + j, none⟩ = some (.int .u64 x)) (hyw : ∀ x ∈ ys, 0 ≤ x ∧ x ≤ 18446744073709551615) (hy0 : 0 < ys.length) (hyl : ys.length ≤ 1000000) :
    Calls Tryz.prog 18 #[.pointer (some ⟨hb, 0, none⟩), .slice (some ⟨mg, mo, none⟩) ys.length mcap] w fun e w' => ∃ ds, e = .returned (.int .i64 (gone A.names ds).length) ∧ (∀ q, q ∈ ds ↔ Reached A (heldTo sl sl.length ++ ys) q) ∧
      ∃ col' A' a', Go0 col w col' w' ∧ Gives A a (gone A.names ds) A' a' ∧ Hs w0 w' col' hb ab tb bb sv least sl A' names (N + 1048576) a' := by
  have hw : ∀ x ∈ heldTo sl sl.length ++ ys, 0 ≤ x ∧ x ≤ 18446744073709551615 := fun x hx => (List.mem_append.1 hx).elim (hw0 x) (hyw x)
  have HY0 := Lib.hid hy
  clear hw0 hyw hy
  have H := Lib.hid (And.intro h hw)
  have hlen := heldTo_len sl sl.length
  clear h hw
  go_enter Tryz.func18, Tryz.ntmps18
  go_wp2_with fail
  refine (held_any H.out.1.hr hL).mono ?_
  rintro e w1 ⟨v, rfl, hrow, hk1⟩
  have hs1 := hk1.size
  have Hk1 := Lib.hid hk1
  obtain ⟨i0, hi, hz0, hz1, hz2⟩ := info_parts Tryz.infoU64
  have hoA := hrow
  have hnA : ∀ j u, (words ys)[j]? = some u → w1.cell? ((⟨mg, mo, none⟩ : Addr).add j) = some u := fun j u hu => by
    unfold words at hu
    rw [List.getElem?_map] at hu
    cases hx : ys[j]? with
    | none => rw [hx] at hu; cases hu
    | some x =>
      rw [hx] at hu
      injection hu with hu
      subst hu
      have hc := HY0.out j x hx
      have h2 := (hk1.cell (p := ⟨mg, mo + j, none⟩) (World.block_lt_of_cell? _ _ hc) (fun e => e)).trans hc
      unfold Addr.add
      split
      · rename_i e0; subst e0; exact h2
      · exact h2
  have hone : ∀ u ∈ words ys, u.oneCell' = true := by intro u hu; unfold words at hu; obtain ⟨x, _, rfl⟩ := List.mem_map.1 hu; rfl
  have hcap1 : (heldTo sl sl.length).length + ys.length ≤ maxLen := by unfold maxLen; omega
  have hcap2 : ((heldTo sl sl.length).length + ys.length) * 8 ≤ 140737488355328 := by omega
  have hwl : (words ys).length = ys.length * 1 := by simp [words]
  obtain ⟨Y, hY⟩ : ∃ Y, ys.length = Y := ⟨_, rfl⟩
  obtain ⟨E, hE⟩ : ∃ E, (heldTo sl sl.length).length = E := ⟨_, rfl⟩
  rw [hY] at hcap1 hcap2 hwl hy0 hyl
  rw [hE] at hcap1 hcap2 hlen hoA
  simp only [hY]
  have HYE := Lib.hid (And.intro hY hE)
  clear hE
  go_wp2_with (at_builtin; refine wpList_append_lies _ rfl _ _ 34 rfl w.heap.size 27 i0 (.int .u64 0) 1 8 Tryz.underlying34 hi hz0 hz1 hz2 rfl (by omega) v E _ rfl hoA ⟨mg, mo, none⟩ Y _ (words ys) rfl hwl hnA hone hy0 hcap1 hcap2 hs1 w1.heap.size rfl ?_; intro g1 cap1 wa hrow1 hgrow hat hlta)
  have hka : Kp (fun _ => False) w wa := hk1.grown hgrow (fun q hq => .inr (hrow.lt q hq).1)
  have hsa := hka.size
  obtain ⟨va, hva⟩ : ∃ va, Value.slice (some ⟨g1, 0, none⟩) (E + Y) cap1 = va := ⟨_, rfl⟩
  have hrowa : wa.ownsRow w.heap.size 27 1 va (heldTo sl sl.length ++ ys).length (words (heldTo sl sl.length ++ ys)) := by
    rw [← hva, List.length_append, HYE.out.1, HYE.out.2]
    simpa [words] using hrow1
  rw [hva]
  have hlena : (heldTo sl sl.length ++ ys).length ≤ sl.length + 1000000 := by rw [List.length_append, HYE.out.1, HYE.out.2]; omega
  clear hrow hk1 hs1 hrow1 hgrow hat hlta hoA hnA hone hwl Hk1
  have h1 := H.out.1.same hka
  refine (reach_any h1.ar Fi_lt w.heap.size va _ hrowa hsa (by omega) H.out.2 (fun g hg => ?_)).mono ?_
  · have hg2 := hrowa.lt g hg
    have hc : recol col w 0 g = 0 := by unfold recol; rw [if_neg (by omega)]
    refine ⟨fun e => by have := e.1; omega, ?_⟩
    have := h1.hr.inF.1
    rintro rfl
    omega
  rintro e w2 ⟨mb, ds, rfl, hmb, hmap, hds, hk2⟩
  have hk2' : Kp (fun _ => False) w w2 := hka.trans (hk2.mono fun q hq e => .inr ⟨(hrowa.lt q e).1, hq⟩)
  have h2 := H.out.1.same hk2'
  have h0 : Go0 col w (recol col w 0) w2 := Go0.same hk2'
  have hmc : recol col w 0 mb = 0 := by unfold recol; rw [if_neg (by omega)]
  obtain ⟨col2, hcol2⟩ : ∃ c, recol col w 0 = c := ⟨_, rfl⟩
  rw [hcol2] at h2 h0 hmc
  obtain ⟨c0, _⟩ := h2.hr.cells
  have H2 := Lib.hid (And.intro h2 (And.intro h0 (And.intro hmc (And.intro hmap hds))))
  clear hrowa hka h1 hk2 hk2' h2 h0 hmc hmap hds hcol2 hsa hmb
  go_wp2_with fail
  refine (blocks_any H2.out.1.ar.rep H2.out.1.ar.lens.1).mono ?_
  rintro e w3 ⟨v3, rfl, hrow3, hk3⟩
  obtain ⟨po, cap, rfl⟩ := slice_form hrow3
  have h3 := H2.out.1.same hk3
  have h03 : Go0 col w (recol col2 w2 0) w3 := H2.out.2.1.trans (Go0.same hk3)
  obtain ⟨hm3, hmc3⟩ := (Go0.same (col := col2) hk3).map H2.out.2.2.2.1 H2.out.2.2.1
  have hrc : ∀ g, (Value.slice po A.names.length cap).ownBlock = some g → recol col2 w2 0 g = 0 := fun g hg => by unfold recol; rw [if_neg (by have := (hrow3.lt g hg).1; omega)]
  obtain ⟨col3, hcol3⟩ : ∃ c, recol col2 w2 0 = c := ⟨_, rfl⟩
  rw [hcol3] at h3 h03 hmc3 hrc
  have hnl : A.names.length ≤ 1048576 := Nat.le_trans (namesTo_len _ _) H2.out.1.ar.lens.1
  have H3 := Lib.hid (And.intro h3 (And.intro h03 (And.intro hm3 (And.intro hmc3 (And.intro hrow3 hrc)))))
  obtain ⟨L, hLe⟩ : ∃ L, A.names.length = L := ⟨_, rfl⟩
  rw [hLe] at hnl
  have HL := Lib.hid hLe
  clear h3 h03 hm3 hmc3 hrow3 hrc hcol3 hk3
  simp only [hLe]
  go_wp2_with fail
  go_loopg [6, 23] L (fun gk gv ix wr => ∃ (k : Nat) (col' : Nat → Nat) (A' : Ar) (a' : Bn), k ≤ L ∧ gk = L - k ∧ ix = .int .i64 k ∧ gv = .int .i64 (gone (A.names.take k) ds).length ∧
    (Go0 col w col' wr ∧ Hs w0 wr col' hb ab tb bb sv least sl A' names (N + k) a' ∧ Gives A a (gone (A.names.take k) ds) A' a' ∧ wr.ownsMap Tryz.prog 3 unitElem mb ds.length (doneSet ds) ∧ col' mb = 0 ∧
      wr.ownsRow w2.heap.size 3 1 (.slice po L cap) L (A.names.map fun (x : Nat) => Value.int .i64 x) ∧ (∀ g, (Value.slice po L cap).ownBlock = some g → col' g = 0) ∧ (∀ p n, A.tk p n → p + 1 ∈ A.names.drop k → A'.tk p n)))
  case atStart =>
    have e := H3.out
    rw [HL.out] at e
    exact ⟨0, col3, A, a, by omega, rfl, rfl, by simp [gone], e.2.1, e.1, by simpa [gone] using Gives.none, e.2.2.1, e.2.2.2.1, e.2.2.2.2.1, e.2.2.2.2.2, fun p n hp _ => hp⟩
  case round =>
    obtain ⟨k, col', A', a', hk, rfl, rfl, rfl, hgo, hHs, hgv, hmap, hmc, hrow, hrc, hrest⟩ := hrel
    by_cases hlt : k < L
    · obtain ⟨x, hx⟩ : ∃ x, A.names[k]? = some x := ⟨_, List.getElem?_eq_getElem (by rw [HL.out]; exact hlt)⟩
      obtain ⟨q, n, rfl, htk⟩ := (names_mem H.out.1.ar.inv).1 (List.mem_of_getElem? hx)
      have hxl := (List.getElem?_eq_some_iff.1 hx).1
      have hdrop : A.names.drop k = (q + 1) :: A.names.drop (k + 1) := by
        rw [List.drop_eq_getElem_cons hxl]
        congr 1
        rw [List.getElem?_eq_getElem hxl] at hx
        exact Option.some.inj hx
      have htk' : A'.tk q n := hrest q n htk (by rw [hdrop]; simp)
      have hrl := names_rest hx
      obtain ⟨g, rfl⟩ : ∃ g, po = some ⟨g, 0, none⟩ := by
        rcases hrow.2 with ⟨_, h0⟩ | ⟨g, cap', cur, e, _⟩
        · omega
        · injection e with e
          exact ⟨g, e⟩
      have d0 : wr.cell? ⟨g, k, none⟩ = some (.int .i64 ((q : Int) + 1)) := by
        refine (hrow.cellAt k (by omega)).trans ?_
        rw [List.getElem?_map, hx]
        simp
      have hgs := gone_succ (ds := ds) hx
      rw [Nat.add_sub_cancel] at hgs
      have hqm := has_done_mem ds q
      have hq0 : (q : Int) ≤ 1048576 := by
        have h1 := (List.getElem?_eq_some_iff.1 htk'.1).1
        have h2 := hHs.ar.lens.1
        omega
      have hwf : (Lit.int .i64 ((q : Int) + 1)).wf = true := WalkArith.wf_i64 (by omega)
      have hka : ∀ o, Kp (fun _ => False) wr (wr.alloc o) := fun o => (Kp.refl _ wr).alloc o
      have hgl : (gone (A.names.take k) ds).length ≤ 1048576 := by
        unfold gone
        have h1 := List.length_filter_le (fun x => !decide (x - 1 ∈ ds)) (A.names.take k)
        simp at h1 ⊢
        omega
      have HE := Lib.hid (And.intro hgo (And.intro hHs (And.intro hgv (And.intro (And.intro hmc hrow) (And.intro hrc hrest)))))
      have HX := Lib.hid (And.intro hdrop (And.intro htk' (And.intro hrl (And.intro hgs hka))))
      have HG := Lib.hid hgs
      obtain ⟨G, hG⟩ : ∃ G, (gone (A.names.take k) ds).length = G := ⟨_, rfl⟩
      rw [hG] at hgl
      have HGl := Lib.hid hG
      by_cases hin : q ∈ ds
      · rw [decide_eq_true hin] at hqm
        rw [hG]
        clear hgo hHs hgv hmc hrow hrc hrest hdrop hrl hgs hx hxl hka hG htk htk'
        go_wp2_with (at_lookup; refine wpList_lookup_own_unit _ rfl _ _ 102 rfl 3 104 Tryz.keyedInt Tryz.underlying102 (Tryz.zeroUnit _) mb ds.length _ rfl hmap _ _ rfl (keyOf_int_mk Tryz.underlying3 hwf) ?_)
        go_roundg (L - (k + 1))
        case measure => omega
        case rel =>
          obtain ⟨e1, e2, e3, ⟨e4, e5⟩, e6, e7⟩ := HE.out
          have g1 := HX.out.2.2.2.2 (.cells #[] 104)
          have gs := HG.out
          rw [if_pos hin, List.append_nil] at gs
          have gm := (Go0.same (col := col') g1).map hmap e4
          have gr := (Go0.same (col := col') g1).row e5 e6
          refine ⟨k + 1, recol col' wr 0, A', a', by omega, rfl, by go_num, by rw [gs, HGl.out], e1.trans (Go0.same g1), ?_, by rw [gs]; exact e3, gm.1, gm.2, gr.1, gr.2, fun p m hp hm => e7 p m hp (by rw [HX.out.1]; exact List.mem_cons_of_mem _ hm)⟩
          have h' := e2.same g1
          exact ⟨h'.hr, h'.ar, h'.at', h'.bn, h'.bi.mono (by omega), h'.old, h'.kp⟩
      · rw [decide_eq_false hin] at hqm
        rw [hG]
        clear hgo hHs hgv hmc hrow hrc hrest hdrop hrl hgs hx hxl hka hG htk htk'
        go_wp2_with (at_lookup; refine wpList_lookup_own_unit _ rfl _ _ 102 rfl 3 104 Tryz.keyedInt Tryz.underlying102 (Tryz.zeroUnit _) mb ds.length _ rfl hmap _ _ rfl (keyOf_int_mk Tryz.underlying3 hwf) ?_)
        obtain ⟨e1, e2, e3, ⟨e4, e5⟩, e6, e7⟩ := HE.out
        have g1 := HX.out.2.2.2.2 (.cells #[] 104)
        refine (giveBack_any (e2.same g1) (by omega) HX.out.2.1).mono ?_
        rintro e w4 ⟨rfl, col4, a4, g4, d4, s4⟩
        have gm := (Go0.same (col := col') g1).map hmap e4
        have gr := (Go0.same (col := col') g1).row e5 e6
        have gm4 := g4.map gm.1 gm.2
        have gr4 := g4.row gr.1 gr.2
        have HY := Lib.hid (And.intro gm4 (And.intro gr4 (And.intro (e1.trans ((Go0.same g1).trans g4)) (And.intro s4 (Gives.snoc e3 HX.out.2.1 d4)))))
        have HR := Lib.hid e7
        clear gm gr gm4 gr4 g4 d4 s4 e1 e2 e3 e4 e5 e6 e7 g1
        go_wp2_with fail
        go_roundg (L - (k + 1))
        case measure => omega
        case rel =>
          have gs := HG.out
          rw [if_neg hin] at gs
          obtain ⟨y1, y2, y3, y4, y5⟩ := HY.out
          refine ⟨k + 1, col4, A'.freed q (cls n), a4, by omega, rfl, by go_num, by rw [gs, List.length_append, HGl.out]; simp, y3, ?_, by rw [gs]; exact y5, y1.1, y1.2, y2.1, y2.2, fun p m hp hm => ?_⟩
          · exact ⟨y4.hr, y4.ar, y4.at', y4.bn, y4.bi.mono (by omega), y4.old, y4.kp⟩
          · have hlt2 := HX.out.2.2.1 (p + 1) hm
            exact (freed_tk HX.out.2.1 p m).2 ⟨by omega, HR.out p m hp (by rw [HX.out.1]; exact List.mem_cons_of_mem _ hm)⟩
    · obtain rfl : k = L := by omega
      have HE := Lib.hid (And.intro hgo (And.intro hHs hgv))
      clear hgo hHs hgv hmap hmc hrow hrc hrest
      have hgt : A.names.take k = A.names := by rw [← HL.out, List.take_length]
      rw [hgt] at HE ⊢
      have HT := Lib.hid hgt
      clear hgt
      go_wp2_with fail
      go_ret
      obtain ⟨g1, g2, g3⟩ := HE.out
      exact ⟨ds, rfl, H2.out.2.2.2.2, col', A', a', g1, g3, ⟨g2.hr, g2.ar, g2.at', g2.bn, g2.bi.mono (by omega), g2.old, g2.kp⟩⟩
end
end Go.Proofs.YtkcmfldcdokobaaGreatDoor
