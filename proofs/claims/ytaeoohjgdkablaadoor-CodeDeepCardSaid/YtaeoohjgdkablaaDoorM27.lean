/- The reader: a function. -/
import Derived.Test.YtaeoohjgdkablaaDoorM26
import Derived.Deep.DeepCutAuto
import Derived.Deep.CutBlock
/- The reader: a function. -/
namespace Go.Proofs.YtaeoohjgdkablaaDoor
open Go.RowKit

section
variable {w : World} {R : Nat} {v : Value} {l : List UInt8} {p q : Nat}
theorem number_ok (h : RAt w R v l p) {n : Nat} (hn : n ≤ 1099511627776) (hx : l.drop p = encNat n ++ l.drop q) (hq : q = p + (encNat n).length) :
    Calls Tryd.prog 51 #[.pointer (some ⟨R, 0, none⟩)] w fun e w' => e = .returned (.int .i64 n) ∧ RAt w' R v l q ∧ Kp (fun q => q = R) w w' := by
  refine (number_any h).mono ?_
  rintro e w' (⟨n', rfl, h1, h2, h3, h4⟩ | ⟨_, hno⟩)
  · obtain ⟨rfl, _⟩ := encNat_cut (hx.symm.trans h3)
    exact ⟨rfl, hq ▸ h2, h4⟩
  · exact absurd hx (hno n _ hn)
theorem count_ok (h : RAt w R v l p) {n : Nat} (hn : n ≤ 1099511627776) (hx : l.drop p = encNat n ++ l.drop q) (hq : q = p + (encNat n).length) (hm : q + n ≤ l.length) :
    Calls Tryd.prog 40 #[.pointer (some ⟨R, 0, none⟩)] w fun e w' => e = .returned (.int .i64 n) ∧ RAt w' R v l q ∧ Kp (fun q => q = R) w w' := by
  refine (count_any h).mono ?_
  rintro e w' (⟨n', rfl, h1, _, h2, h3, h4⟩ | ⟨_, hno⟩)
  · obtain ⟨rfl, _⟩ := encNat_cut (hx.symm.trans h3)
    exact ⟨rfl, hq ▸ h2, h4⟩
  · exact absurd hx (hno n _ hn (by rw [List.length_drop]; omega))
theorem operand_ok (h : RAt w R v l p) {x : Int} (hn : zig x ≤ 1099511627776) (hx : l.drop p = encNat (zig x) ++ l.drop q) (hq : q = p + (encNat (zig x)).length) :
    Calls Tryd.prog 53 #[.pointer (some ⟨R, 0, none⟩)] w fun e w' => e = .returned (.int .i64 x) ∧ RAt w' R v l q ∧ Kp (fun q => q = R) w w' := by
  refine (operand_any h).mono ?_
  rintro e w' (⟨x', rfl, h1, h2, h3, h4⟩ | ⟨_, hno⟩)
  · obtain ⟨hz, _⟩ := encNat_cut (hx.symm.trans h3)
    obtain rfl := zig_inj hz
    exact ⟨rfl, hq ▸ h2, h4⟩
  · exact absurd hx (hno x _ hn)
end

theorem encIs_len : ∀ l : List In4, l.length ≤ (encIs l).length
  | [] => by simp
  | x :: l => by
    have := encIs_len l
    simp only [encIs, List.flatMap_cons, List.length_append, List.length_cons, encI] at this ⊢
    omega
theorem four_facts {w : World} {A : Nat} {c0 c1 c2 c3 : Value} {T : TypeId} (h : w.heap[A]? = some (.cells #[c0, c1, c2, c3] T (0, 0))) :
    w.cell? ⟨A, 0, none⟩ = some c0 ∧ w.cell? ⟨A, 1, none⟩ = some c1 ∧ w.cell? ⟨A, 2, none⟩ = some c2 ∧ w.cell? ⟨A, 3, none⟩ = some c3 ∧ ∀ j, w.frozen? ⟨A, j, none⟩ = false :=
  ⟨by rw [cell_of_row w A 0 _ _ _ h]; rfl, by rw [cell_of_row w A 1 _ _ _ h]; rfl, by rw [cell_of_row w A 2 _ _ _ h]; rfl, by rw [cell_of_row w A 3 _ _ _ h]; rfl, fun j => by simp [World.frozen?, h]⟩
def fourSet (w : World) (A : Nat) (c0 c1 c2 c3 : Value) : World := (((w.setCell ⟨A, 0, none⟩ c0).setCell ⟨A, 1, none⟩ c1).setCell ⟨A, 2, none⟩ c2).setCell ⟨A, 3, none⟩ c3
theorem fourSet_any {w : World} {A : Nat} {d0 d1 d2 d3 c0 c1 c2 c3 : Value} {T : TypeId} (h : w.heap[A]? = some (.cells #[d0, d1, d2, d3] T (0, 0))) :
    (fourSet w A c0 c1 c2 c3).heap[A]? = some (.cells #[c0, c1, c2, c3] T (0, 0)) ∧ Kp (fun q => q = A) w (fourSet w A c0 c1 c2 c3) :=
  ⟨heap_set_same' (heap_set_same' (heap_set_same' (heap_set_same' h _) _) _) _, ((((Kp.refl (fun q => q = A) w).setCell _ _ (.inl rfl)).setCell _ _ (.inl rfl)).setCell _ _ (.inl rfl)).setCell _ _ (.inl rfl)⟩
theorem encIs_app (a b : List In4) : encIs (a ++ b) = encIs a ++ encIs b := by simp [encIs]
theorem take_snoc {α : Type} {l : List α} {j : Nat} {x : α} (h : l[j]? = some x) : l.take (j + 1) = l.take j ++ [x] := by
  obtain ⟨hl, rfl⟩ := List.getElem?_eq_some_iff.1 h
  rw [List.take_succ_eq_append_getElem hl]
theorem drop_app {l x y : List UInt8} {p : Nat} (h : l.drop p = x ++ y) : l.drop (p + x.length) = y := by rw [← List.drop_drop, h, List.drop_left]
theorem strB_toList (s : ByteArray) : strB s.data.toList = s := by simp [strB]

/-- bytes of the reader's, as a string: here, and behind the alloc of a function -/
theorem conv_two {w : World} {R : Nat} {name : ByteArray} {v : Value} (h : BytesAt (fun q => q < R) w name.data.toList v) :
    (convert 23 9 v).run Tryd.prog w = .ok (.string name) w ∧ (convert 23 9 v).run Tryd.prog (w.alloc (.cells #[.string ⟨#[]⟩, .int .i64 0, .int .i64 0, .slice none 0 0] 30)) = .ok (.string name) (w.alloc (.cells #[.string ⟨#[]⟩, .int .i64 0, .int .i64 0, .slice none 0 0] 30)) := by
  have h1 := conv_any h
  have h2 := conv_any (bytes_kp h ((Kp.refl (fun _ => False) w).alloc (.cells #[.string ⟨#[]⟩, .int .i64 0, .int .i64 0, .slice none 0 0] 30)) (fun _ _ e => e))
  rw [strB_toList] at h1 h2
  exact ⟨h1, h2⟩

theorem cf_number (args : Array Value) (w : World) : (callFunc 51 args).run Tryd.prog w = .ok (.enter 51 args) w := by kernel_rfl
theorem cf_operand (args : Array Value) (w : World) : (callFunc 53 args).run Tryd.prog w = .ok (.enter 53 args) w := by kernel_rfl
theorem cf_next (args : Array Value) (w : World) : (callFunc 37 args).run Tryd.prog w = .ok (.enter 37 args) w := by kernel_rfl

/-- a function whose instructions are still to come -/
def FnBegun (w1 : World) (R : Nat) (v : Value) (l : List UInt8) (p3 : Nat) (name : ByteArray) (an sn : Nat) (s3 : Value) (wc : World) : Prop :=
  ∃ a3, s3 = .pointer (some ⟨a3, 0, none⟩) ∧ w1.heap.size ≤ a3 ∧ wc.heap[a3]? = some (.cells #[.string name, .int .i64 an, .int .i64 sn, .slice none 0 0] 30 (0, 0)) ∧ RAt wc R v l p3 ∧ Kp (fun q => q = R) w1 wc
theorem begun_set {w1 w4 : World} {R A : Nat} {v : Value} {l : List UInt8} {p3 : Nat} {name : ByteArray} {an sn : Nat} {d0 d1 d2 d3 : Value} (hz : w4.heap[A]? = some (.cells #[d0, d1, d2, d3] 30 (0, 0))) (hA : w1.heap.size ≤ A) (hr : RAt w4 R v l p3) (hk : Kp (fun q => q = R) w1 w4) (hR : R < w1.heap.size) :
    FnBegun w1 R v l p3 name an sn (.pointer (some ⟨A, 0, none⟩)) ((((w4.setCell ⟨A, 0, none⟩ (.string name)).setCell ⟨A, 1, none⟩ (.int .i64 an)).setCell ⟨A, 2, none⟩ (.int .i64 sn)).setCell ⟨A, 3, none⟩ (.slice none 0 0)) := by
  obtain ⟨h1, h2⟩ := fourSet_any (c0 := .string name) (c1 := .int .i64 an) (c2 := .int .i64 sn) (c3 := .slice none 0 0) hz
  exact ⟨A, rfl, hA, h1, ⟨(h2.block R (Array.getElem?_eq_some_iff.1 hr.cells).1 (by omega)).trans hr.cells, bytes_kp hr.bytes h2 (fun x e e2 => by omega), hr.le⟩, kp_new hk (h2.mono fun x _ e => .inr (by omega))⟩
theorem begun_new {w1 w4 : World} {R : Nat} {v : Value} {l : List UInt8} {p3 : Nat} {name : ByteArray} {an sn : Nat} (hr : RAt w4 R v l p3) (hk : Kp (fun q => q = R) w1 w4) :
    FnBegun w1 R v l p3 name an sn (.pointer (some ⟨w4.heap.size, 0, none⟩)) (w4.alloc (.cells #[.string name, .int .i64 an, .int .i64 sn, .slice none 0 0] 30)) :=
  ⟨_, rfl, hk.size, heap_alloc_new w4 _, hr.kp ((Kp.refl _ w4).alloc _), hk.alloc _⟩

/-- between the instructions -/
def InsTo (w1 : World) (R : Nat) (v : Value) (l : List UInt8) (a3 : Nat) (name : ByteArray) (an sn : Nat) (code : List In4) (j qj : Nat) (wx : World) : Prop :=
  ∃ (po : Option Addr) (n c : Nat), wx.heap[a3]? = some (.cells #[.string name, .int .i64 an, .int .i64 sn, .slice po n c] 30 (0, 0)) ∧ wx.ownsRow (a3 + 1) 27 4 (.slice po n c) j (insCells (code.take j)) ∧ RAt wx R v l qj ∧ Kp (fun q => q = R) w1 wx
theorem ins_next {w1 w5 : World} {R : Nat} {v : Value} {l : List UInt8} {a3 : Nat} {name : ByteArray} {an sn : Nat} {code : List In4} {j qj : Nat} {po : Option Addr} {n c : Nat} {x : In4} (hb : w5.heap[a3]? = some (.cells #[.string name, .int .i64 an, .int .i64 sn, .slice po n c] 30 (0, 0))) (ho : w5.ownsRow (a3 + 1) 27 4 (.slice po n c) j (insCells (code.take j)))
    (hr : RAt w5 R v l qj) (hk : Kp (fun q => q = R) w1 w5) (hR : R < w1.heap.size) (hA : w1.heap.size ≤ a3) (hx : code[j]? = some x) (hj : j ≤ 1000000000) :
    ∃ g cap w6, (Builtin.append_ #[28, 28] 28 #[.slice po n c, .slice (some ⟨w5.heap.size, 0, none⟩) 1 1]).run Tryd.prog (w5.alloc (.cells #[.int .i64 x.op, .int .i64 x.a, .int .i64 x.b, .int .i64 x.c] 27)) = .ok (.slice (some ⟨g, 0, none⟩) (j + 1) cap) w6 ∧
      w6.cell? ⟨a3, 3, none⟩ = some (.slice po n c) ∧ w6.frozen? ⟨a3, 3, none⟩ = false ∧ InsTo w1 R v l a3 name an sn code (j + 1) qj (w6.setCell ⟨a3, 3, none⟩ (.slice (some ⟨g, 0, none⟩) (j + 1) cap)) := by
  have hal := (Array.getElem?_eq_some_iff.1 hb).1
  have hRl := (Array.getElem?_eq_some_iff.1 hr.cells).1
  obtain ⟨g, cap, w6, h1, h2, h3, h4⟩ := ins_row ho (by omega) (by omega) x
  have hv : ∀ q, (Value.slice po n c).ownBlock = some q → a3 + 1 ≤ q ∧ q < w5.heap.size := fun q e => ho.lt q e
  have hb6 := (h3.block a3 hal (fun e => by have := (hv _ e).1; omega)).trans hb
  obtain ⟨-, -, -, g3, gf⟩ := four_facts hb6
  refine ⟨g, cap, w6, h1, g3, gf 3, _, _, _, heap_set_same hb6 _, ?_, ?_, ?_⟩
  · rw [take_snoc hx]
    refine ((Kp.refl (fun q => q = a3) w6).setCell ⟨a3, 3, none⟩ _ (.inl rfl)).row h2 (fun q e e2 => ?_)
    have e := Option.some.inj e
    simp only at e
    rcases h4 with h4 | h4
    · have := (hv _ h4).1; omega
    · omega
  · have hr6 : RAt w6 R v l qj := ⟨(h3.block R hRl (fun e => by have := (hv _ e).1; omega)).trans hr.cells, bytes_kp hr.bytes h3 (fun q e e2 => by have := (hv _ e2).1; omega), hr.le⟩
    exact ⟨((Kp.refl (fun q => q = a3) w6).setCell ⟨a3, 3, none⟩ _ (.inl rfl)).block R (Array.getElem?_eq_some_iff.1 hr6.cells).1 (by omega) |>.trans hr6.cells, bytes_kp hr6.bytes ((Kp.refl (fun q => q = a3) w6).setCell ⟨a3, 3, none⟩ _ (.inl rfl)) (fun q e e2 => by omega), hr6.le⟩
  · exact (kp_new hk (h3.mono fun q _ e => .inr (by have := (hv _ e).1; omega))).trans (((Kp.refl (fun q => q = a3) w6).setCell ⟨a3, 3, none⟩ _ (.inl rfl)).mono fun q _ e => .inr (by omega))

set_option maxRecDepth 100000 in
set_option maxHeartbeats 20000000 in
theorem function_ok {w : World} {R : Nat} {v : Value} {l : List UInt8} {p q : Nat} (h : RAt w R v l p) {f : Fn4} (hf : fitsF f = true) (hn : f.name.size ≤ 1099511627776) (hx : l.drop p = encF f ++ l.drop q) (hq : q = p + (encF f).length) (hl : l.length ≤ 1000000000) :
    Calls Tryd.prog 42 #[.pointer (some ⟨R, 0, none⟩)] w fun e w' => ∃ vc, e = .returned (.agg #[.string f.name, .int .i64 f.args, .int .i64 f.slots, vc]) ∧ FnAt (Own w.heap.size w') w' f [.string f.name, .int .i64 f.args, .int .i64 f.slots, vc] ∧ RAt w' R v l q ∧ Kp (fun q => q = R) w w' := by
  have hRl := (Array.getElem?_eq_some_iff.1 h.cells).1
  obtain ⟨w1, hw1⟩ : ∃ w1, w.alloc (.cells #[.string ⟨#[]⟩, .int .i64 0, .int .i64 0, .slice none 0 0] 30) = w1 := ⟨_, rfl⟩
  have hk1 : Kp (fun _ => False) w w1 := by rw [← hw1]; exact (Kp.refl _ w).alloc _
  have hbx : w1.heap[w.heap.size]? = some (.cells #[.string ⟨#[]⟩, .int .i64 0, .int .i64 0, .slice none 0 0] 30 (0, 0)) := by rw [← hw1]; exact heap_alloc_new w _
  have hz1 : w1.heap.size = w.heap.size + 1 := by rw [← hw1]; simp
  obtain ⟨name, args, slots, code⟩ := f
  unfold encF at hx hq
  simp only [fitsF, Bool.and_eq_true, wi_true] at hf
  simp only at hf hn hx hq ⊢
  obtain ⟨⟨⟨ha1, ha2⟩, hs1, hs2⟩, hcode⟩ := hf
  obtain ⟨an, rfl⟩ := Int.eq_ofNat_of_zero_le ha1
  obtain ⟨sn, rfl⟩ := Int.eq_ofNat_of_zero_le hs1
  simp only [Int.toNat_natCast] at hx hq
  rw [List.append_assoc, List.append_assoc, List.append_assoc, List.append_assoc] at hx
  have hql : q ≤ l.length := by
    have h1 := congrArg List.length hx
    have h2 := h.le
    simp only [List.length_append, List.length_drop] at h1 hq
    omega
  obtain ⟨p1, hp1⟩ : ∃ p1, p1 = p + (encB name.data.toList).length := ⟨_, rfl⟩
  obtain ⟨p2, hp2⟩ : ∃ p2, p2 = p1 + (encNat an).length := ⟨_, rfl⟩
  obtain ⟨p3, hp3⟩ : ∃ p3, p3 = p2 + (encNat sn).length := ⟨_, rfl⟩
  obtain ⟨p4, hp4⟩ : ∃ p4, p4 = p3 + (encNat code.length).length := ⟨_, rfl⟩
  have x1 := drop_app hx
  rw [← hp1] at x1
  have x2 := drop_app x1
  rw [← hp2] at x2
  have x3 := drop_app x2
  rw [← hp3] at x3
  have x4 := drop_app x3
  rw [← hp4] at x4
  rw [← x1] at hx
  rw [← x2] at x1
  rw [← x3] at x2
  rw [← x4] at x3
  have hq4 : q = p4 + (encIs code).length := by simp only [List.length_append] at hq; omega
  have hns : name.data.toList.length ≤ 1099511627776 := by simpa using hn
  have Hs := Lib.hid (fun (wx : World) (k : Kp (fun _ => False) w1 wx) => some_ok (w := wx) ((h.kp hk1).kp k) hns hx hp1)
  have Ha := Lib.hid (fun (wx : World) (k : RAt wx R v l p1) => number_ok (w := wx) k (by omega) x1 hp2)
  have Hb := Lib.hid (fun (wx : World) (k : RAt wx R v l p2) => number_ok (w := wx) k (by omega) x2 hp3)
  have H1 := Lib.hid (And.intro (h.kp hk1) (And.intro hk1 (And.intro hbx (And.intro hRl hz1))))
  have HX := Lib.hid (And.intro x3 (And.intro x4 (And.intro hp4 (And.intro hq4 hcode))))
  have Hcl := Lib.hid (show code.length ≤ 1000000000 ∧ p4 + code.length ≤ l.length ∧ an ≤ 1099511627776 ∧ sn ≤ 1099511627776 ∧ name.size ≤ 1099511627776 from by
    have h1 := encIs_len code
    omega)
  have hR1 : R < w1.heap.size := by omega
  have hR1' : R ≠ w1.heap.size := by omega
  clear h hk1 hbx hRl hx x1 x2 x3 x4 hq hcode hn ha2 hs2 ha1 hs1 hp1 hp2 hp3 hp4 hq4 hns hz1
  go_enter Tryd.func42, Tryd.ntmps42
  go_wp2_with fail
  try rw [hw1]
  clear hw1
  go_cut [3] (fun s3 wc => FnBegun w1 R v l p3 name an sn s3 wc)
  case first =>
    go_region_law (first
      | (refine step_fn (by rfl) 39 #[.tmp 4] #[88] (by rfl) cf_some #[.pointer (some ⟨R, 0, none⟩)] (by first | (simp [Act.eval]; done) | simp [Act.eval, Act.put]) ?_; refine (Hs.out _ (by first | exact (Kp.refl _ _).drew | exact (Kp.refl _ _).drew.alloc _)).mono ?_; rintro e w2 ⟨po, n, c, rfl, hb1, hr2, hk2⟩; refine ⟨_, rfl, ?_⟩; obtain ⟨hcv, hcw⟩ := conv_two hb1; have hk12 : Kp (fun q => q = R) w1 w2 := Kp.trans' (by first | exact (Kp.refl _ _).drew | exact (Kp.refl _ _).drew.alloc _) hk2; (first | have hz := (hk2.block w1.heap.size (by simp) (by omega)).trans (heap_alloc_new w1.drew _) | skip); have HA := Lib.hid (And.intro hr2 (And.intro hk12 hb1)); clear hr2 hk12 hk2 hb1)
      | (refine step_fn (by rfl) 51 #[.tmp 7] #[88] (by rfl) cf_number #[.pointer (some ⟨R, 0, none⟩)] (by first | (simp [Act.eval]; done) | simp [Act.eval, Act.put]) ?_; refine (Ha.out _ (HA.out.1.kp (by first | exact (Kp.refl _ _) | exact (Kp.refl _ _).alloc _))).mono ?_; rintro e w3 ⟨rfl, hr3, hk3⟩; refine ⟨_, rfl, ?_⟩; have hb3 := bytes_kp HA.out.2.2 (Kp.trans' (F := fun q => q = R) (w := w2) (by first | exact (Kp.refl _ _) | exact (Kp.refl _ _).alloc _) hk3) (fun q e e2 => by omega); obtain ⟨hcv3, hcw3⟩ := conv_two hb3; have hk13 : Kp (fun q => q = R) w1 w3 := HA.out.2.1.trans' (Kp.trans' (by first | exact (Kp.refl _ _) | exact (Kp.refl _ _).alloc _) hk3); have hs2' := HA.out.2.1.size; (first | have hz := (hk3.block w1.heap.size (Array.getElem?_eq_some_iff.1 hz).1 (by omega)).trans hz | have hz := (hk3.block w2.heap.size (by simp) (by omega)).trans (heap_alloc_new w2 _) | skip); have HB := Lib.hid (And.intro hr3 (And.intro hk13 hb3)); clear hr3 hk13 hk3 hb3)
      | (refine step_fn (by rfl) 51 #[.tmp 9] #[88] (by rfl) cf_number #[.pointer (some ⟨R, 0, none⟩)] (by first | (simp [Act.eval]; done) | simp [Act.eval, Act.put]) ?_; refine (Hb.out _ (HB.out.1.kp (by first | exact (Kp.refl _ _) | exact (Kp.refl _ _).alloc _))).mono ?_; rintro e w4 ⟨rfl, hr4, hk4⟩; refine ⟨_, rfl, ?_⟩; have hb4 := bytes_kp HB.out.2.2 (Kp.trans' (F := fun q => q = R) (w := w3) (by first | exact (Kp.refl _ _) | exact (Kp.refl _ _).alloc _) hk4) (fun q e e2 => by omega); obtain ⟨hcv4, hcw4⟩ := conv_two hb4; have hk14 : Kp (fun q => q = R) w1 w4 := HB.out.2.1.trans' (Kp.trans' (by first | exact (Kp.refl _ _) | exact (Kp.refl _ _).alloc _) hk4); have hs3' := HB.out.2.1.size; (first | have hz := (hk4.block _ (Array.getElem?_eq_some_iff.1 hz).1 (by omega)).trans hz | have hz := (hk4.block w3.heap.size (by simp) (by omega)).trans (heap_alloc_new w3 _) | skip); (first | (have hF := four_facts hz; obtain ⟨g0, g1, g2, g3, gf⟩ := hF) | skip); have HC := Lib.hid (And.intro hr4 hk14); clear hr4 hk14 hk4 hb4))
    all_goals
      refine Met.intro ?_
      go_step
      go_meet
      first
        | with_reducible exact begun_set hz (Nat.le_refl _) HC.out.1 HC.out.2 hR1
        | with_reducible exact begun_set hz hs2' HC.out.1 HC.out.2 hR1
        | with_reducible exact begun_set hz hs3' HC.out.1 HC.out.2 hR1
        | with_reducible exact begun_new HC.out.1 HC.out.2
  case rest =>
    obtain ⟨a3, rfl, hA, hb, hr, hk⟩ := hcut
    have Hc := Lib.hid (And.intro hA (And.intro hb (And.intro hr hk)))
    clear hA hb hr hk Hs Ha Hb
    go_wp2_with fail
    refine (count_ok Hc.out.2.2.1 (n := code.length) (by have := HX.out.2.1; have := Hcl.out; omega) HX.out.1 HX.out.2.2.1 Hcl.out.2.1).mono ?_
    rintro e w5 ⟨rfl, hr5, hk5⟩
    have h5b := (hk5.block a3 (Array.getElem?_eq_some_iff.1 Hc.out.2.1).1 (by have := Hc.out.1; omega)).trans Hc.out.2.1
    have H5 := Lib.hid (And.intro Hc.out.1 (And.intro h5b (And.intro hr5 (Hc.out.2.2.2.trans' hk5))))
    clear hr5 hk5 h5b Hc
    go_wp2_with fail
    go_loopg [14] code.length (fun gk jj wr => ∃ (j : Nat) (po : Option Addr) (n c : Nat), j ≤ code.length ∧ gk = code.length - j ∧ jj = .int .i64 j ∧ wr.heap[a3]? = some (.cells #[.string name, .int .i64 an, .int .i64 sn, .slice po n c] 30 (0, 0)) ∧ wr.ownsRow (a3 + 1) 27 4 (.slice po n c) j (insCells (code.take j)) ∧ RAt wr R v l (p4 + (encIs (code.take j)).length) ∧ Kp (fun q => q = R) w1 wr)
    case atStart => exact ⟨0, none, 0, 0, by omega, rfl, rfl, H5.out.2.1, World.ownsRow_nil _ _ _ _, by simpa [encIs] using H5.out.2.2.1, H5.out.2.2.2⟩
    case round =>
      obtain ⟨j, po, n, c, hj, rfl, rfl, hb, ho, hr, hk⟩ := hrel
      have hA := H5.out.1
      have hcl := Hcl.out.1
      clear H5
      by_cases hlt : j < code.length
      · obtain ⟨x, hjx⟩ : ∃ x, code[j]? = some x := ⟨code[j], List.getElem?_eq_getElem hlt⟩
        obtain ⟨q0, hq0⟩ : ∃ q0, q0 = p4 + (encIs (code.take j)).length := ⟨_, rfl⟩
        rw [← hq0] at hr
        have hfx := List.all_eq_true.1 HX.out.2.2.2.2 x (List.mem_of_getElem? hjx)
        have hy := HX.out.2.1
        rw [← List.take_append_drop j code, encIs_app, List.append_assoc] at hy
        have y0 := drop_app hy
        rw [← hq0, encIs_drop hjx] at y0
        obtain ⟨xo, xa, xb, xc⟩ := x
        simp only [fitsI, Bool.and_eq_true, wi_true] at hfx
        obtain ⟨⟨ho1, ho2⟩, ⟨ha1, ha2⟩, ⟨hb1, hb2⟩, hc1, hc2⟩ := hfx
        obtain ⟨on, rfl⟩ := Int.eq_ofNat_of_zero_le ho1
        simp only [encI, Int.toNat_natCast, List.cons_append, List.append_assoc] at y0
        obtain ⟨q1, hq1⟩ : ∃ q1, q1 = q0 + 1 := ⟨_, rfl⟩
        obtain ⟨q2, hq2⟩ : ∃ q2, q2 = q1 + (encNat (zig xa)).length := ⟨_, rfl⟩
        obtain ⟨q3, hq3⟩ : ∃ q3, q3 = q2 + (encNat (zig xb)).length := ⟨_, rfl⟩
        obtain ⟨q4, hq4⟩ : ∃ q4, q4 = q3 + (encNat (zig xc)).length := ⟨_, rfl⟩
        have c0 : l[q0]? = some (UInt8.ofNat on) := by
          have := congrArg (fun x : List UInt8 => x[0]?) y0
          simpa using this
        have y1 : l.drop q1 = encNat (zig xa) ++ (encNat (zig xb) ++ (encNat (zig xc) ++ (encIs (code.drop (j + 1)) ++ l.drop q))) := by
          rw [hq1]; exact drop_app (x := [UInt8.ofNat on]) y0
        have y2 := drop_app y1
        rw [← hq2] at y2
        have y3 := drop_app y2
        rw [← hq3] at y3
        have y4 := drop_app y3
        rw [← hq4] at y4
        rw [← y2] at y1
        rw [← y3] at y2
        rw [← y4] at y3
        have hon : ((UInt8.ofNat on).toNat : Int) = on := by rw [u8_of (by omega)]
        have hqj : q4 = p4 + (encIs (code.take (j + 1))).length := by
          have e : (encIs [(⟨(on : Int), xa, xb, xc⟩ : In4)]).length = 1 + (encNat (zig xa)).length + (encNat (zig xb)).length + (encNat (zig xc)).length := by
            simp only [encIs, encI, List.flatMap_cons, List.flatMap_nil, List.append_nil, List.length_cons, List.length_append]; omega
          rw [take_snoc hjx, encIs_app, List.length_append, e]
          omega
        have H0 := Lib.hid (show ∀ (wx : World), Kp (fun _ => False) wr wx → Calls Tryd.prog 37 #[.pointer (some ⟨R, 0, none⟩)] wx fun e w' => e = .returned (.int .u8 (on : Int)) ∧ RAt w' R v l q1 ∧ Kp (fun q => q = R) wx w' from fun wx k => (next_ok (hr.kp k) c0).mono fun e w' h => by rw [hon, ← hq1] at h; exact h)
        have Ho := Lib.hid (fun (wx : World) (k : RAt wx R v l q1) => operand_ok (w := wx) k (zig_far ha1 ha2) y1 hq2)
        have Hp := Lib.hid (fun (wx : World) (k : RAt wx R v l q2) => operand_ok (w := wx) k (zig_far hb1 hb2) y2 hq3)
        have Hq := Lib.hid (fun (wx : World) (k : RAt wx R v l q3) => operand_ok (w := wx) k (zig_far hc1 hc2) y3 hq4)
        have hwo : IntKind.i64.wrap (on : Int) = on := by rw [IntKind.wrap_i64]; omega
        have hwo2 : wrap64 (on : Int) = on := by unfold wrap64; omega
        have hRa : a3 ≠ R := by omega
        obtain ⟨-, -, -, g3, gf⟩ := four_facts hb
        have H5 := Lib.hid (And.intro hb (And.intro ho (And.intro hk (And.intro hqj hjx))))
        have Hal := Lib.hid (Array.getElem?_eq_some_iff.1 hb).1
        clear hb ho hk hqj hr hy y0 y1 y2 y3 y4 hq0 hq1 hq2 hq3 hq4 c0 hon ho1 ho2 ha1 ha2 hb1 hb2 hc1 hc2 HX Hcl H1
        go_upto_block 1 with fail
        go_cut [14] (fun s14 wx => s14 = .int .i64 j ∧ InsTo w1 R v l a3 name an sn code (j + 1) q4 wx)
        case first =>
          go_upto_region 4 with fail
          go_region_law (first
            | (refine step_fn (by rfl) 37 #[.tmp 18] #[88] (by rfl) cf_next #[.pointer (some ⟨R, 0, none⟩)] (by first | (simp [Act.eval]; done) | simp [Act.eval, Act.put]) ?_; refine (H0.out _ ((Kp.refl _ _).drew)).mono ?_; rintro e w2 ⟨rfl, hr2, hk2⟩; refine ⟨_, rfl, ?_⟩; have hb2 := (hk2.block a3 Hal.out hRa).trans H5.out.1; (have hF := four_facts hb2; obtain ⟨-, -, -, g32, gf2⟩ := hF); have HA := Lib.hid (And.intro hr2 (And.intro hb2 (Kp.trans' (F := fun q => q = R) ((Kp.refl _ wr).drew) hk2))); clear hr2 hb2 hk2)
            | (refine step_fn (by rfl) 53 #[.tmp 21] #[88] (by rfl) cf_operand #[.pointer (some ⟨R, 0, none⟩)] (by first | (simp [Act.eval]; done) | simp [Act.eval, Act.put]) ?_; refine (Ho.out _ HA.out.1).mono ?_; rintro e w3 ⟨rfl, hr3, hk3⟩; refine ⟨_, rfl, ?_⟩; have hb3 := (hk3.block a3 (Array.getElem?_eq_some_iff.1 HA.out.2.1).1 hRa).trans HA.out.2.1; (have hF := four_facts hb3; obtain ⟨-, -, -, g33, gf3⟩ := hF); have HB := Lib.hid (And.intro hr3 (And.intro hb3 (HA.out.2.2.trans' hk3))); clear hr3 hb3 hk3)
            | (refine step_fn (by rfl) 53 #[.tmp 23] #[88] (by rfl) cf_operand #[.pointer (some ⟨R, 0, none⟩)] (by first | (simp [Act.eval]; done) | simp [Act.eval, Act.put]) ?_; refine (Hp.out _ HB.out.1).mono ?_; rintro e w4 ⟨rfl, hr4, hk4⟩; refine ⟨_, rfl, ?_⟩; have hb4 := (hk4.block a3 (Array.getElem?_eq_some_iff.1 HB.out.2.1).1 hRa).trans HB.out.2.1; (have hF := four_facts hb4; obtain ⟨-, -, -, g34, gf4⟩ := hF); have HC := Lib.hid (And.intro hr4 (And.intro hb4 (HB.out.2.2.trans' hk4))); clear hr4 hb4 hk4)
            | (refine step_fn (by rfl) 53 #[.tmp 25] #[88] (by rfl) cf_operand #[.pointer (some ⟨R, 0, none⟩)] (by first | (simp [Act.eval]; done) | simp [Act.eval, Act.put]) ?_; refine (Hq.out _ HC.out.1).mono ?_; rintro e w5 ⟨rfl, hr5, hk5⟩; refine ⟨_, rfl, ?_⟩; have hb5 := (hk5.block a3 (Array.getElem?_eq_some_iff.1 HC.out.2.1).1 hRa).trans HC.out.2.1; (have hF := four_facts hb5; obtain ⟨-, -, -, g35, gf5⟩ := hF); have g36 : (w5.alloc (.cells #[.int .i64 (on : Int), .int .i64 xa, .int .i64 xb, .int .i64 xc] 27)).cell? ⟨a3, 3, none⟩ = some (.slice po n c) := (by rw [World.cell?_alloc_past _ _ _ (Array.getElem?_eq_some_iff.1 hb5).1]; exact g35); have hk15 := HC.out.2.2.trans' hk5; (have hN := ins_next (code := code) (j := j) (x := ⟨(on : Int), xa, xb, xc⟩) hb5 (hk15.row H5.out.2.1 (fun q e e2 => by have := (H5.out.2.1.lt q e).1; omega)) hr5 (H5.out.2.2.1.trans' hk15) hR1 hA H5.out.2.2.2.2 (by omega); obtain ⟨g, cap, w6, hN⟩ := hN); have HN := Lib.hid hN; have g66 := HN.out.2.1; have gf6 := HN.out.2.2.1; clear hr5 hb5 hk5 hk15 hN)
            | (refine step_run (by rfl) (.tmp 17) (.tmp 28) 28 (by rfl) (.slice po n c) (.slice (some ⟨w5.heap.size, 0, none⟩) 1 1) (by first | (simp [Act.eval]; done) | simp [Act.eval, Act.put]) (by first | (simp [Act.eval]; done) | simp [Act.eval, Act.put]) _ _ HN.out.1 ?_))
          all_goals
            refine Met.intro ?_
            go_step
            go_meet
            exact ⟨rfl, HN.out.2.2.2⟩
        case rest =>
          obtain ⟨rfl, po', n', c', hb', ho', hr', hk'⟩ := hcut
          have HE := Lib.hid (And.intro hb' (And.intro ho' (And.intro hr' hk')))
          clear hb' ho' hr' hk'
          go_wp2_with fail
          go_roundg (code.length - (j + 1))
          case measure => omega
          case rel => exact ⟨j + 1, po', n', c', by omega, rfl, by go_num, HE.out.1, HE.out.2.1, H5.out.2.2.2.1 ▸ HE.out.2.2.1, HE.out.2.2.2⟩
      · obtain rfl : j = code.length := by omega
        rw [List.take_length] at ho hr
        have hR := H1.out.2.2.2.1
        have hz1 := H1.out.2.2.2.2
        have hbx := (hk.block w.heap.size (by omega) (by omega)).trans H1.out.2.2.1
        obtain ⟨g0, g1, g2, g3, gf⟩ := four_facts hb
        obtain ⟨e0, e1, e2, e3, ef⟩ := four_facts hbx
        obtain ⟨hr9, hk9⟩ := fourSet_any (c0 := .string name) (c1 := .int .i64 an) (c2 := .int .i64 sn) (c3 := .slice po n c) hbx
        have hcode : CodeAt (Own (a3 + 1) wr) wr code (.slice po n c) := insCells_at ho (by omega) fun x hx => by
          have h := List.all_eq_true.1 HX.out.2.2.2.2 x hx
          simp only [fitsI, Bool.and_eq_true, wi_true] at h
          unfold In4.wf isI64
          omega
        have HD := Lib.hid (And.intro hr9 (And.intro hk9 (And.intro hcode (And.intro hr (And.intro hk (And.intro hbx hz1))))))
        clear hr9 hk9 hcode hr hk hbx hb ho hz1
        go_wp2_with fail
        change bodyPost _ _ _ _ _ (fourSet wr w.heap.size (.string name) (.int .i64 an) (.int .i64 sn) (.slice po n c))
        clear g0 g1 g2 g3 gf e0 e1 e2 e3 ef
        obtain ⟨w9, hw9⟩ : ∃ w9, fourSet wr w.heap.size (.string name) (.int .i64 an) (.int .i64 sn) (.slice po n c) = w9 := ⟨_, rfl⟩
        rw [hw9]
        obtain ⟨hr9, hk9, hcode, hr, hk, hbx, hz1⟩ := HD.out
        rw [hw9] at hr9 hk9
        obtain ⟨i0, i1, i2, i3, -⟩ := four_facts hr9
        refine bodyPost_ret (v := .agg #[.string name, .int .i64 an, .int .i64 sn, .slice po n c]) (by simp [results, Tryd.results42, go_sem, i0, i1, i2, i3]) rfl ?_
        have hs9 := hk9.size
        have h3 := Hcl.out.2.2
        refine ⟨_, rfl, ⟨_, rfl, by simp only; unfold isI64; omega, by simp only; unfold isI64; omega, by simp only; unfold maxLen; omega, hcode.imp (fun q e => ⟨by have := e.1; omega, Nat.lt_of_lt_of_le e.2 hs9⟩) (cells_kp hk9 fun q e e2 => by have := e.1; omega)⟩, ?_, ?_⟩
        · rw [HX.out.2.2.2.1]
          exact ⟨(hk9.block R (Array.getElem?_eq_some_iff.1 hr.cells).1 (by omega)).trans hr.cells, bytes_kp hr.bytes hk9 (fun x e e2 => by omega), hr.le⟩
        · exact kp_new ((H1.out.2.1.mono fun _ _ e => e.elim : Kp (fun q => q = R) w w1).trans' hk) (hk9.mono fun x _ e => .inr (by omega))
end Go.Proofs.YtaeoohjgdkablaaDoor
