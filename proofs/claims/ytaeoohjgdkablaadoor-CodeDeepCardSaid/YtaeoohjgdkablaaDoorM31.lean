/- The reader: a function, of any bytes. -/
import Derived.Test.YtaeoohjgdkablaaDoorM28
import Derived.Test.YtaeoohjgdkablaaDoorM30
import Derived.Deep.DeepCutAuto
import Derived.Deep.CutBlock
/- The reader: a function, of any bytes. -/
namespace Go.Proofs.YtaeoohjgdkablaaDoor
open Go.RowKit

def okF (f : Fn4) : Prop := fitsF f = true ∧ f.name.size ≤ 1099511627776
def NoF (l : List UInt8) (p : Nat) : Prop := ∀ f y, okF f → l.drop p ≠ encF f ++ y
def NoI (l : List UInt8) (q : Nat) : Prop := ∀ z y, fitsI z = true → l.drop q ≠ encI z ++ y
/-- the end of function -/
def FunPost (w : World) (R : Nat) (v : Value) (l : List UInt8) (p : Nat) (e : Ending) (w' : World) : Prop :=
  (∃ f po n c q, e = .returned (.agg #[.string f.name, .int .i64 f.args, .int .i64 f.slots, .slice po n c]) ∧ FnAt (Own w.heap.size w') w' f [.string f.name, .int .i64 f.args, .int .i64 f.slots, .slice po n c] ∧ okF f ∧ RAt w' R v l q ∧ l.drop p = encF f ++ l.drop q ∧ Kp (fun q => q = R) w w') ∨
  (RFail R w e w' ∧ NoF l p)

section
variable {w w1 : World} {R : Nat} {v : Value} {l : List UInt8} {p p1 p2 p3 p4 q : Nat} {G : Ending → World → Prop}
def SomeIs (w : World) (R : Nat) (v : Value) (l : List UInt8) (p : Nat) (x : Value) (w' : World) : Prop :=
  ∃ (name : ByteArray) (po : Option Addr) (n c p1 : Nat), x = .slice po n c ∧ BytesAt (fun q => q < R) w' name.data.toList (.slice po n c) ∧ name.size ≤ 1099511627776 ∧ RAt w' R v l p1 ∧ l.drop p = encB name.data.toList ++ l.drop p1 ∧ Kp (fun q => q = R) w w'
def NumIs (w : World) (R : Nat) (v : Value) (l : List UInt8) (p : Nat) (x : Value) (w' : World) : Prop :=
  ∃ (n p1 : Nat), x = .int .i64 n ∧ n ≤ 1099511627776 ∧ RAt w' R v l p1 ∧ l.drop p = encNat n ++ l.drop p1 ∧ Kp (fun q => q = R) w w'
def OpdIs (w : World) (R : Nat) (v : Value) (l : List UInt8) (p : Nat) (x : Value) (w' : World) : Prop :=
  ∃ (n : Int) (p1 : Nat), x = .int .i64 n ∧ wi n (-549755813888) 549755813888 = true ∧ RAt w' R v l p1 ∧ l.drop p = encNat (zig n) ++ l.drop p1 ∧ Kp (fun q => q = R) w w'
def NextIs (w : World) (R : Nat) (v : Value) (l : List UInt8) (p : Nat) (x : Value) (w' : World) : Prop :=
  ∃ (c : Nat), x = .int .u8 c ∧ c < 256 ∧ RAt w' R v l (p + 1) ∧ l.drop p = UInt8.ofNat c :: l.drop (p + 1) ∧ Kp (fun q => q = R) w w'
theorem some_or (h : RAt w R v l p) (hk : Kp (fun q => q = R) w1 w) (hG : ∀ e w', RFail R w1 e w' → (∀ s y, s.length ≤ 1099511627776 → l.drop p ≠ encB s ++ y) → G e w') :
    Calls Tryd.prog 39 #[.pointer (some ⟨R, 0, none⟩)] w fun e w' => (∃ x, e = .returned x ∧ SomeIs w R v l p x w') ∨ (∃ c, e = .panicked c ∧ G (.panicked c) w') := by
  refine (some_any h).mono ?_
  rintro e w' (⟨s, x, rfl, h1, h2, h3, h4, h5⟩ | ⟨hf, hno⟩)
  · obtain ⟨name, rfl⟩ : ∃ name : ByteArray, name.data.toList = s := ⟨strB s, by simp [strB]⟩
    obtain ⟨po, n, c, rfl⟩ := h1.form
    have hns : name.data.toList.length = name.size := Array.length_toList
    exact .inl ⟨_, rfl, name, po, n, c, _, rfl, h1, by omega, h3, h4, h5⟩
  · obtain ⟨c, rfl⟩ := hf.pan
    exact .inr ⟨c, rfl, hG _ _ (hf.le hk) hno⟩
theorem number_or (h : RAt w R v l p) (hk : Kp (fun q => q = R) w1 w) (hG : ∀ e w', RFail R w1 e w' → (∀ n y, n ≤ 1099511627776 → l.drop p ≠ encNat n ++ y) → G e w') :
    Calls Tryd.prog 51 #[.pointer (some ⟨R, 0, none⟩)] w fun e w' => (∃ x, e = .returned x ∧ NumIs w R v l p x w') ∨ (∃ c, e = .panicked c ∧ G (.panicked c) w') := by
  refine (number_any h).mono ?_
  rintro e w' (⟨n, rfl, h1, h2, h3, h4⟩ | ⟨hf, hno⟩)
  · exact .inl ⟨_, rfl, n, _, rfl, h1, h2, h3, h4⟩
  · obtain ⟨c, rfl⟩ := hf.pan
    exact .inr ⟨c, rfl, hG _ _ (hf.le hk) hno⟩
theorem operand_or (h : RAt w R v l p) (hk : Kp (fun q => q = R) w1 w) (hG : ∀ e w', RFail R w1 e w' → (∀ n y, zig n ≤ 1099511627776 → l.drop p ≠ encNat (zig n) ++ y) → G e w') :
    Calls Tryd.prog 53 #[.pointer (some ⟨R, 0, none⟩)] w fun e w' => (∃ x, e = .returned x ∧ OpdIs w R v l p x w') ∨ (∃ c, e = .panicked c ∧ G (.panicked c) w') := by
  refine (operand_any h).mono ?_
  rintro e w' (⟨n, rfl, h1, h2, h3, h4⟩ | ⟨hf, hno⟩)
  · have hb := zag_far h1
    rw [zag_zig] at hb
    exact .inl ⟨_, rfl, n, _, rfl, wi_true.2 hb, h2, h3, h4⟩
  · obtain ⟨c, rfl⟩ := hf.pan
    exact .inr ⟨c, rfl, hG _ _ (hf.le hk) hno⟩
theorem next_or (h : RAt w R v l p) (hk : Kp (fun q => q = R) w1 w) (hG : ∀ e w', RFail R w1 e w' → p = l.length → G e w') :
    Calls Tryd.prog 37 #[.pointer (some ⟨R, 0, none⟩)] w fun e w' => (∃ x, e = .returned x ∧ NextIs w R v l p x w') ∨ (∃ c, e = .panicked c ∧ G (.panicked c) w') := by
  by_cases hp : p = l.length
  · refine (next_no h hp).mono ?_
    intro e w' hf
    obtain ⟨c, rfl⟩ := hf.pan
    exact .inr ⟨c, rfl, hG _ _ (hf.le hk) hp⟩
  · have hlt : p < l.length := by have := h.le; omega
    refine (next_ok h (List.getElem?_eq_getElem hlt)).mono ?_
    rintro e w' ⟨rfl, h1, h2⟩
    exact .inl ⟨_, rfl, _, rfl, l[p].toNat_lt, h1, by rw [UInt8.ofNat_toNat]; exact List.drop_eq_getElem_cons hlt, h2⟩
theorem encIs_cut : ∀ {c d : List In4} {x y : List UInt8}, c.length ≤ d.length → encIs c ++ x = encIs d ++ y → x = encIs (d.drop c.length) ++ y
  | [], _, _, _, _, h => by simpa [encIs] using h
  | a :: c, [], _, _, h, _ => by simp at h
  | a :: c, b :: d, x, y, hl, h => by
    have e1 : ∀ (a : In4) (c : List In4), encIs (a :: c) = encI a ++ encIs c := fun a c => by simp [encIs]
    rw [e1, e1] at h
    simp only [encI, List.cons_append, List.append_assoc, List.cons.injEq] at h
    have h1 := (encNat_cut h.2).2
    have h2 := (encNat_cut h1).2
    have h3 := (encNat_cut h2).2
    simpa using encIs_cut (by simpa using hl) h3
theorem nf_some (hno : ∀ s y, s.length ≤ 1099511627776 → l.drop p ≠ encB s ++ y) : NoF l p := fun f y hf e => by
  have hns : f.name.data.toList.length = f.name.size := Array.length_toList
  refine hno f.name.data.toList (encNat f.args.toNat ++ (encNat f.slots.toNat ++ (encNat f.code.length ++ (encIs f.code ++ y)))) (by have := hf.2; omega) (e.trans ?_)
  simp only [encF, List.append_assoc]
theorem fits_parts {f : Fn4} (h : fitsF f = true) : f.args.toNat ≤ 1099511627776 ∧ f.slots.toNat ≤ 1099511627776 ∧ ∀ x ∈ f.code, fitsI x = true := by
  simp only [fitsF, Bool.and_eq_true, wi_true, List.all_eq_true] at h
  refine ⟨by omega, by omega, h.2⟩
theorem nf_args {s : List UInt8} (E : l.drop p = encB s ++ l.drop p1) (hno : ∀ n y, n ≤ 1099511627776 → l.drop p1 ≠ encNat n ++ y) : NoF l p := fun f y hf e => by
  rw [E] at e
  simp only [encF, List.append_assoc] at e
  exact hno _ _ (fits_parts hf.1).1 (encB_cut e).2
theorem nf_slots {s : List UInt8} {an : Nat} (E : l.drop p = encB s ++ l.drop p1) (E2 : l.drop p1 = encNat an ++ l.drop p2) (hno : ∀ n y, n ≤ 1099511627776 → l.drop p2 ≠ encNat n ++ y) : NoF l p := fun f y hf e => by
  rw [E] at e
  simp only [encF, List.append_assoc] at e
  have e1 := (encB_cut e).2
  rw [E2] at e1
  exact hno _ _ (fits_parts hf.1).2.1 (encNat_cut e1).2
theorem nf_head {s : List UInt8} {an sn : Nat} (E : l.drop p = encB s ++ (encNat an ++ (encNat sn ++ l.drop p3))) {f : Fn4} {y : List UInt8} (e : l.drop p = encF f ++ y) : l.drop p3 = encNat f.code.length ++ (encIs f.code ++ y) := by
  rw [E] at e
  simp only [encF, List.append_assoc] at e
  exact (encNat_cut (encNat_cut (encB_cut e).2).2).2
theorem nf_count {s : List UInt8} {an sn : Nat} (hl : l.length ≤ 1000000000) (E : l.drop p = encB s ++ (encNat an ++ (encNat sn ++ l.drop p3))) (hno : ∀ n y, n ≤ 1099511627776 → n ≤ y.length → l.drop p3 ≠ encNat n ++ y) : NoF l p := fun f y _ e => by
  have e1 := nf_head E e
  have h1 := encIs_len f.code
  have h2 := congrArg List.length e1
  simp only [List.length_drop, List.length_append] at h2
  exact hno _ _ (by omega) (by simp; omega) e1
theorem nf_ins {s : List UInt8} {an sn n : Nat} {c : List In4} (E : l.drop p = encB s ++ (encNat an ++ (encNat sn ++ l.drop p3))) (E4 : l.drop p3 = encNat n ++ l.drop p4) (Ec : l.drop p4 = encIs c ++ l.drop q) (hc : c.length < n) (hno : NoI l q) : NoF l p := fun f y hf e => by
  have e1 := nf_head E e
  rw [E4] at e1
  obtain ⟨h1, h2⟩ := encNat_cut e1
  rw [Ec] at h2
  have h3 := encIs_cut (by omega) h2
  have hx : f.code[c.length]? = some f.code[c.length] := List.getElem?_eq_getElem (by omega)
  rw [encIs_drop hx, List.append_assoc] at h3
  exact hno _ _ ((fits_parts hf.1).2.2 _ (List.mem_of_getElem? hx)) h3
theorem ni_next (hq : q = l.length) : NoI l q := fun z y _ e => by
  rw [List.drop_of_length_le (by omega)] at e
  simp [encI] at e
theorem ni_a {c : Nat} (E : l.drop q = UInt8.ofNat c :: l.drop (q + 1)) (hno : ∀ n y, zig n ≤ 1099511627776 → l.drop (q + 1) ≠ encNat (zig n) ++ y) : NoI l q := fun z y hz e => by
  rw [E] at e
  simp only [encI, List.cons_append, List.append_assoc, List.cons.injEq] at e
  simp only [fitsI, Bool.and_eq_true, wi_true] at hz
  exact hno _ _ (zig_far hz.2.1.1 hz.2.1.2) e.2
theorem ni_b {c : Nat} {a : Int} (E : l.drop q = UInt8.ofNat c :: l.drop (q + 1)) (E2 : l.drop (q + 1) = encNat (zig a) ++ l.drop p2) (hno : ∀ n y, zig n ≤ 1099511627776 → l.drop p2 ≠ encNat (zig n) ++ y) : NoI l q := fun z y hz e => by
  rw [E] at e
  simp only [encI, List.cons_append, List.append_assoc, List.cons.injEq] at e
  simp only [fitsI, Bool.and_eq_true, wi_true] at hz
  have e1 := e.2
  rw [E2] at e1
  exact hno _ _ (zig_far hz.2.2.1.1 hz.2.2.1.2) (encNat_cut e1).2
theorem ni_c {c : Nat} {a b : Int} (E : l.drop q = UInt8.ofNat c :: l.drop (q + 1)) (E2 : l.drop (q + 1) = encNat (zig a) ++ l.drop p2) (E3 : l.drop p2 = encNat (zig b) ++ l.drop p3) (hno : ∀ n y, zig n ≤ 1099511627776 → l.drop p3 ≠ encNat (zig n) ++ y) : NoI l q := fun z y hz e => by
  rw [E] at e
  simp only [encI, List.cons_append, List.append_assoc, List.cons.injEq] at e
  simp only [fitsI, Bool.and_eq_true, wi_true] at hz
  have e1 := e.2
  rw [E2] at e1
  have e2 := (encNat_cut e1).2
  rw [E3] at e2
  exact hno _ _ (zig_far hz.2.2.2.1 hz.2.2.2.2) (encNat_cut e2).2
end

theorem ins_next2 {w1 w5 : World} {R : Nat} {v : Value} {l : List UInt8} {a3 : Nat} {name : ByteArray} {an sn : Nat} {cs : List In4} {j qj : Nat} {po : Option Addr} {n c : Nat} {x : In4} (hb : w5.heap[a3]? = some (.cells #[.string name, .int .i64 an, .int .i64 sn, .slice po n c] 30 (0, 0))) (ho : w5.ownsRow (a3 + 1) 27 4 (.slice po n c) j (insCells cs)) (hcl : cs.length = j)
    (hr : RAt w5 R v l qj) (hk : Kp (fun q => q = R) w1 w5) (hR : R < w1.heap.size) (hA : w1.heap.size ≤ a3) (hj : j ≤ 1000000000) :
    ∃ g cap w6, (Builtin.append_ #[28, 28] 28 #[.slice po n c, .slice (some ⟨w5.heap.size, 0, none⟩) 1 1]).run Tryd.prog (w5.alloc (.cells #[.int .i64 x.op, .int .i64 x.a, .int .i64 x.b, .int .i64 x.c] 27)) = .ok (.slice (some ⟨g, 0, none⟩) (j + 1) cap) w6 ∧
      w6.cell? ⟨a3, 3, none⟩ = some (.slice po n c) ∧ w6.frozen? ⟨a3, 3, none⟩ = false ∧ ∃ po' n' c', (w6.setCell ⟨a3, 3, none⟩ (.slice (some ⟨g, 0, none⟩) (j + 1) cap)).heap[a3]? = some (.cells #[.string name, .int .i64 an, .int .i64 sn, .slice po' n' c'] 30 (0, 0)) ∧
        (w6.setCell ⟨a3, 3, none⟩ (.slice (some ⟨g, 0, none⟩) (j + 1) cap)).ownsRow (a3 + 1) 27 4 (.slice po' n' c') (j + 1) (insCells (cs ++ [x])) ∧ RAt (w6.setCell ⟨a3, 3, none⟩ (.slice (some ⟨g, 0, none⟩) (j + 1) cap)) R v l qj ∧ Kp (fun q => q = R) w1 (w6.setCell ⟨a3, 3, none⟩ (.slice (some ⟨g, 0, none⟩) (j + 1) cap)) := by
  have e1 : (cs ++ [x]).take j = cs := by rw [← hcl]; simp
  have e2 : (cs ++ [x]).take (j + 1) = cs ++ [x] := List.take_of_length_le (by simp; omega)
  obtain ⟨g, cap, w6, h1, h2, h3, po', n', c', h4, h5, h6, h7⟩ := ins_next (code := cs ++ [x]) (x := x) hb (by rw [e1]; exact ho) hr hk hR hA (by rw [← hcl]; simp) hj
  rw [e2] at h5
  exact ⟨g, cap, w6, h1, h2, h3, po', n', c', h4, h5, h6, h7⟩
theorem encIs_one (c : List In4) (x : In4) (y : List UInt8) : encIs (c ++ [x]) ++ y = encIs c ++ (encI x ++ y) := by simp [encIs]

set_option maxRecDepth 100000 in
set_option maxHeartbeats 20000000 in
theorem function_any {w : World} {R : Nat} {v : Value} {l : List UInt8} {p : Nat} (h : RAt w R v l p) (hl : l.length ≤ 1000000000) :
    Calls Tryd.prog 42 #[.pointer (some ⟨R, 0, none⟩)] w (FunPost w R v l p) := by
  have hRl := (Array.getElem?_eq_some_iff.1 h.cells).1
  obtain ⟨w1, hw1⟩ : ∃ w1, w.alloc (.cells #[.string ⟨#[]⟩, .int .i64 0, .int .i64 0, .slice none 0 0] 30) = w1 := ⟨_, rfl⟩
  have hk1 : Kp (fun _ => False) w w1 := by rw [← hw1]; exact (Kp.refl _ w).alloc _
  have hbx : w1.heap[w.heap.size]? = some (.cells #[.string ⟨#[]⟩, .int .i64 0, .int .i64 0, .slice none 0 0] 30 (0, 0)) := by rw [← hw1]; exact heap_alloc_new w _
  have hz1 : w1.heap.size = w.heap.size + 1 := by rw [← hw1]; simp
  have hkR : Kp (fun q => q = R) w w1 := hk1.mono fun _ _ e => e.elim
  have H1 := Lib.hid (And.intro (h.kp hk1) (And.intro hk1 (And.intro hbx (And.intro hRl (And.intro hz1 hkR)))))
  have hR1 : R < w1.heap.size := by omega
  have hR1' : R ≠ w1.heap.size := by omega
  have HS := Lib.hid (fun (wx : World) (k : Kp (fun _ => False) w1 wx) => some_or (w := wx) (G := FunPost w R v l p) (H1.out.1.kp k) (k.mono fun _ _ e => e.elim) fun _ _ hf hno => .inr ⟨hf.le hkR, nf_some hno⟩)
  clear h hk1 hbx hRl hz1
  go_enter Tryd.func42, Tryd.ntmps42
  go_wp2_with fail
  try rw [hw1]
  clear hw1
  go_cut [3] (fun s3 wc => ∃ name an sn p3, FnBegun w1 R v l p3 name an sn s3 wc ∧ name.size ≤ 1099511627776 ∧ an ≤ 1099511627776 ∧ sn ≤ 1099511627776 ∧ l.drop p = encB name.data.toList ++ (encNat an ++ (encNat sn ++ l.drop p3)))
  case first =>
    go_region_law (first
      | (refine step_fn_or (by rfl) 39 #[.tmp 4] #[88] (by rfl) cf_some #[.pointer (some ⟨R, 0, none⟩)] (by first | (simp [Act.eval]; done) | simp [Act.eval, Act.put]) (SomeIs _ R v l p) (fun c w' => FunPost w R v l p (.panicked c) w') (HS.out _ (by first | exact (Kp.refl _ _).drew | exact (Kp.refl _ _).drew.alloc _)) ?_ ?_; (focus (intro c w' hb; change bodyPost Tryd.prog Tryd.f42 (FunPost w R v l p) (Exit.panic c) _ w'; exact bodyPost_panic rfl hb)); rintro x w2 ⟨name, po, n, c, p1, rfl, hb1, hn1, hr2, hE1, hk2⟩; obtain ⟨hcv, hcw⟩ := conv_two hb1; have hk12 : Kp (fun q => q = R) w1 w2 := Kp.trans' (by first | exact (Kp.refl _ _).drew | exact (Kp.refl _ _).drew.alloc _) hk2; (first | have hz := (hk2.block w1.heap.size (by simp) (by omega)).trans (heap_alloc_new w1.drew _) | skip); have HA := Lib.hid (And.intro hr2 (And.intro hk12 (And.intro hb1 (And.intro hn1 hE1)))); clear hr2 hk12 hk2 hb1 hn1 hE1)
      | (refine step_fn_or (by rfl) 51 #[.tmp 7] #[88] (by rfl) cf_number #[.pointer (some ⟨R, 0, none⟩)] (by first | (simp [Act.eval]; done) | simp [Act.eval, Act.put]) (NumIs _ R v l p1) (fun c w' => FunPost w R v l p (.panicked c) w') (number_or (G := FunPost w R v l p) (w1 := w1) (HA.out.1.kp (by first | exact (Kp.refl _ _) | exact (Kp.refl _ _).alloc _)) (HA.out.2.1.trans' (by first | exact (Kp.refl (fun q => q = R) _) | exact (Kp.refl (fun q => q = R) _).alloc _)) fun _ _ hf hno => .inr ⟨hf.le H1.out.2.2.2.2.2, nf_args HA.out.2.2.2.2 hno⟩) ?_ ?_; (focus (intro c w' hb; change bodyPost Tryd.prog Tryd.f42 (FunPost w R v l p) (Exit.panic c) _ w'; exact bodyPost_panic rfl hb)); rintro x w3 ⟨an, p2, rfl, han, hr3, hE2, hk3⟩; have hb3 := bytes_kp HA.out.2.2.1 (Kp.trans' (F := fun q => q = R) (w := w2) (by first | exact (Kp.refl _ _) | exact (Kp.refl _ _).alloc _) hk3) (fun q e e2 => by omega); obtain ⟨hcv3, hcw3⟩ := conv_two hb3; have hk13 : Kp (fun q => q = R) w1 w3 := HA.out.2.1.trans' (Kp.trans' (by first | exact (Kp.refl _ _) | exact (Kp.refl _ _).alloc _) hk3); have hs2' := HA.out.2.1.size; (first | have hz := (hk3.block w1.heap.size (Array.getElem?_eq_some_iff.1 hz).1 (by omega)).trans hz | have hz := (hk3.block w2.heap.size (by simp) (by omega)).trans (heap_alloc_new w2 _) | skip); have HB := Lib.hid (And.intro hr3 (And.intro hk13 (And.intro hb3 (And.intro han hE2)))); clear hr3 hk13 hk3 hb3 han hE2)
      | (refine step_fn_or (by rfl) 51 #[.tmp 9] #[88] (by rfl) cf_number #[.pointer (some ⟨R, 0, none⟩)] (by first | (simp [Act.eval]; done) | simp [Act.eval, Act.put]) (NumIs _ R v l p2) (fun c w' => FunPost w R v l p (.panicked c) w') (number_or (G := FunPost w R v l p) (w1 := w1) (HB.out.1.kp (by first | exact (Kp.refl _ _) | exact (Kp.refl _ _).alloc _)) (HB.out.2.1.trans' (by first | exact (Kp.refl (fun q => q = R) _) | exact (Kp.refl (fun q => q = R) _).alloc _)) fun _ _ hf hno => .inr ⟨hf.le H1.out.2.2.2.2.2, nf_slots HA.out.2.2.2.2 HB.out.2.2.2.2 hno⟩) ?_ ?_; (focus (intro c w' hb; change bodyPost Tryd.prog Tryd.f42 (FunPost w R v l p) (Exit.panic c) _ w'; exact bodyPost_panic rfl hb)); rintro x w4 ⟨sn, p3, rfl, hsn, hr4, hE3, hk4⟩; have hb4 := bytes_kp HB.out.2.2.1 (Kp.trans' (F := fun q => q = R) (w := w3) (by first | exact (Kp.refl _ _) | exact (Kp.refl _ _).alloc _) hk4) (fun q e e2 => by omega); obtain ⟨hcv4, hcw4⟩ := conv_two hb4; have hk14 : Kp (fun q => q = R) w1 w4 := HB.out.2.1.trans' (Kp.trans' (by first | exact (Kp.refl _ _) | exact (Kp.refl _ _).alloc _) hk4); have hs3' := HB.out.2.1.size; (first | have hz := (hk4.block _ (Array.getElem?_eq_some_iff.1 hz).1 (by omega)).trans hz | have hz := (hk4.block w3.heap.size (by simp) (by omega)).trans (heap_alloc_new w3 _) | skip); (first | (have hF := four_facts hz; obtain ⟨g0, g1, g2, g3, gf⟩ := hF) | skip); have HC := Lib.hid (And.intro hr4 (And.intro hk14 (And.intro hsn (show l.drop p = encB name.data.toList ++ (encNat an ++ (encNat sn ++ l.drop p3)) by rw [HA.out.2.2.2.2, HB.out.2.2.2.2, hE3])))); clear hr4 hk14 hk4 hb4 hsn hE3))
    all_goals
      refine Met.intro ?_
      go_step
      go_meet
      first
        | with_reducible exact ⟨name, an, sn, p3, begun_set hz (Nat.le_refl _) HC.out.1 HC.out.2.1 hR1, HA.out.2.2.2.1, HB.out.2.2.2.1, HC.out.2.2.1, HC.out.2.2.2⟩
        | with_reducible exact ⟨name, an, sn, p3, begun_set hz hs2' HC.out.1 HC.out.2.1 hR1, HA.out.2.2.2.1, HB.out.2.2.2.1, HC.out.2.2.1, HC.out.2.2.2⟩
        | with_reducible exact ⟨name, an, sn, p3, begun_set hz hs3' HC.out.1 HC.out.2.1 hR1, HA.out.2.2.2.1, HB.out.2.2.2.1, HC.out.2.2.1, HC.out.2.2.2⟩
        | with_reducible exact ⟨name, an, sn, p3, begun_new HC.out.1 HC.out.2.1, HA.out.2.2.2.1, HB.out.2.2.2.1, HC.out.2.2.1, HC.out.2.2.2⟩
  case rest =>
    obtain ⟨name, an, sn, p3, ⟨a3, rfl, hA, hb, hr, hk⟩, hnm, han, hsn, hE⟩ := hcut
    have HE := Lib.hid (And.intro hE (And.intro hnm (And.intro han hsn)))
    have Hc := Lib.hid (And.intro hA (And.intro hb (And.intro hr hk)))
    clear hA hb hr hk hE hnm han hsn HS
    go_wp2_with fail
    refine (count_any Hc.out.2.2.1).mono ?_
    rintro e w5 (⟨n0, rfl, hn1, hn2, hr5, hE4, hk5⟩ | ⟨hf5, hno⟩)
    · obtain ⟨p4, hp4⟩ : ∃ p4, p4 = p3 + (encNat n0).length := ⟨_, rfl⟩
      rw [← hp4] at hn2 hr5 hE4
      have h5b := (hk5.block a3 (Array.getElem?_eq_some_iff.1 Hc.out.2.1).1 (by have := Hc.out.1; omega)).trans Hc.out.2.1
      have H5 := Lib.hid (And.intro Hc.out.1 (And.intro h5b (And.intro hr5 (And.intro (Hc.out.2.2.2.trans' hk5) (And.intro hE4 hn2)))))
      clear hr5 hk5 h5b Hc hE4 hn1 hn2 hp4
      go_wp2_with fail
      go_loopg [14] n0 (fun gk jj wr => ∃ (j qj : Nat) (c : List In4) (po : Option Addr) (n cp : Nat), j ≤ n0 ∧ gk = n0 - j ∧ jj = .int .i64 j ∧ c.length = j ∧ (∀ x ∈ c, fitsI x = true) ∧ l.drop p4 = encIs c ++ l.drop qj ∧ wr.heap[a3]? = some (.cells #[.string name, .int .i64 an, .int .i64 sn, .slice po n cp] 30 (0, 0)) ∧ wr.ownsRow (a3 + 1) 27 4 (.slice po n cp) j (insCells c) ∧ RAt wr R v l qj ∧ Kp (fun q => q = R) w1 wr)
      case atStart => exact ⟨0, p4, [], none, 0, 0, by omega, rfl, rfl, rfl, by simp, by simp [encIs], H5.out.2.1, World.ownsRow_nil _ _ _ _, H5.out.2.2.1, H5.out.2.2.2.1⟩
      case round =>
        obtain ⟨j, qj, c, po, n, cp, hj, rfl, rfl, hcl, hcf, hcE, hb, ho, hr, hk⟩ := hrel
        have hA := H5.out.1
        have hnl : n0 ≤ 1000000000 := by have := H5.out.2.2.2.2.2; omega
        by_cases hlt : j < n0
        · have hRa : a3 ≠ R := by omega
          obtain ⟨-, -, -, g3, gf⟩ := four_facts hb
          have HN := Lib.hid (show NoI l qj → NoF l p from fun hno => nf_ins HE.out.1 H5.out.2.2.2.2.1 hcE (by omega) hno)
          have H0 := Lib.hid (fun (wx : World) (k : Kp (fun _ => False) wr wx) => next_or (w := wx) (w1 := w1) (G := FunPost w R v l p) (hr.kp k) (hk.trans' (k.mono fun _ _ e => e.elim)) fun _ _ hf hno => .inr ⟨hf.le H1.out.2.2.2.2.2, HN.out (ni_next hno)⟩)
          have H6 := Lib.hid (And.intro hb (And.intro ho (And.intro hk (And.intro hcl (And.intro hcf hcE)))))
          have Hal := Lib.hid (Array.getElem?_eq_some_iff.1 hb).1
          clear hb ho hk hr hcl hcf hcE H5
          go_upto_block 1 with fail
          go_cut [14] (fun s14 wx => s14 = .int .i64 j ∧ ∃ qj' x po' n' cp', fitsI x = true ∧ l.drop qj = encI x ++ l.drop qj' ∧ wx.heap[a3]? = some (.cells #[.string name, .int .i64 an, .int .i64 sn, .slice po' n' cp'] 30 (0, 0)) ∧ wx.ownsRow (a3 + 1) 27 4 (.slice po' n' cp') (j + 1) (insCells (c ++ [x])) ∧ RAt wx R v l qj' ∧ Kp (fun q => q = R) w1 wx)
          case first =>
            go_upto_region 4 with fail
            go_region_law (first
              | (refine step_fn_or (by rfl) 37 #[.tmp 18] #[88] (by rfl) cf_next #[.pointer (some ⟨R, 0, none⟩)] (by first | (simp [Act.eval]; done) | simp [Act.eval, Act.put]) (NextIs _ R v l qj) (fun c w' => FunPost w R v l p (.panicked c) w') (H0.out _ ((Kp.refl _ _).drew)) ?_ ?_; (focus (intro c w' hb; change bodyPost Tryd.prog Tryd.f42 (FunPost w R v l p) (Exit.panic c) _ w'; exact bodyPost_panic rfl hb)); rintro x w2 ⟨on, rfl, hon, hr2, hE0, hk2⟩; have hwo : IntKind.i64.wrap (on : Int) = on := (by rw [IntKind.wrap_i64]; omega); have hwo2 : wrap64 (on : Int) = on := (by unfold wrap64; omega); have hb2 := (hk2.block a3 Hal.out hRa).trans H6.out.1; (have hF := four_facts hb2; obtain ⟨-, -, -, g32, gf2⟩ := hF); have HA := Lib.hid (And.intro hr2 (And.intro hb2 (And.intro (Kp.trans' (F := fun q => q = R) ((Kp.refl _ wr).drew) hk2) (And.intro hE0 hon)))); clear hr2 hb2 hk2 hE0 hon)
              | (refine step_fn_or (by rfl) 53 #[.tmp 21] #[88] (by rfl) cf_operand #[.pointer (some ⟨R, 0, none⟩)] (by first | (simp [Act.eval]; done) | simp [Act.eval, Act.put]) (OpdIs _ R v l (qj + 1)) (fun c w' => FunPost w R v l p (.panicked c) w') (operand_or (G := FunPost w R v l p) (w1 := w1) HA.out.1 (H6.out.2.2.1.trans' HA.out.2.2.1) fun _ _ hf hno => .inr ⟨hf.le H1.out.2.2.2.2.2, HN.out (ni_a HA.out.2.2.2.1 hno)⟩) ?_ ?_; (focus (intro c w' hb; change bodyPost Tryd.prog Tryd.f42 (FunPost w R v l p) (Exit.panic c) _ w'; exact bodyPost_panic rfl hb)); rintro x w3 ⟨xa, qa, rfl, hxa, hr3, hE1, hk3⟩; have hb3 := (hk3.block a3 (Array.getElem?_eq_some_iff.1 HA.out.2.1).1 hRa).trans HA.out.2.1; (have hF := four_facts hb3; obtain ⟨-, -, -, g3a, gfa⟩ := hF); have HB := Lib.hid (And.intro hr3 (And.intro hb3 (And.intro (HA.out.2.2.1.trans' hk3) (And.intro hE1 hxa)))); clear hr3 hb3 hk3 hE1 hxa)
              | (refine step_fn_or (by rfl) 53 #[.tmp 23] #[88] (by rfl) cf_operand #[.pointer (some ⟨R, 0, none⟩)] (by first | (simp [Act.eval]; done) | simp [Act.eval, Act.put]) (OpdIs _ R v l qa) (fun c w' => FunPost w R v l p (.panicked c) w') (operand_or (G := FunPost w R v l p) (w1 := w1) HB.out.1 (H6.out.2.2.1.trans' HB.out.2.2.1) fun _ _ hf hno => .inr ⟨hf.le H1.out.2.2.2.2.2, HN.out (ni_b HA.out.2.2.2.1 HB.out.2.2.2.1 hno)⟩) ?_ ?_; (focus (intro c w' hb; change bodyPost Tryd.prog Tryd.f42 (FunPost w R v l p) (Exit.panic c) _ w'; exact bodyPost_panic rfl hb)); rintro x w4 ⟨xb, qb, rfl, hxb, hr3, hE1, hk3⟩; have hb3 := (hk3.block a3 (Array.getElem?_eq_some_iff.1 HB.out.2.1).1 hRa).trans HB.out.2.1; (have hF := four_facts hb3; obtain ⟨-, -, -, g3b, gfb⟩ := hF); have HC := Lib.hid (And.intro hr3 (And.intro hb3 (And.intro (HB.out.2.2.1.trans' hk3) (And.intro hE1 hxb)))); clear hr3 hb3 hk3 hE1 hxb)
              | (refine step_fn_or (by rfl) 53 #[.tmp 25] #[88] (by rfl) cf_operand #[.pointer (some ⟨R, 0, none⟩)] (by first | (simp [Act.eval]; done) | simp [Act.eval, Act.put]) (OpdIs _ R v l qb) (fun c w' => FunPost w R v l p (.panicked c) w') (operand_or (G := FunPost w R v l p) (w1 := w1) HC.out.1 (H6.out.2.2.1.trans' HC.out.2.2.1) fun _ _ hf hno => .inr ⟨hf.le H1.out.2.2.2.2.2, HN.out (ni_c HA.out.2.2.2.1 HB.out.2.2.2.1 HC.out.2.2.2.1 hno)⟩) ?_ ?_; (focus (intro c w' hb; change bodyPost Tryd.prog Tryd.f42 (FunPost w R v l p) (Exit.panic c) _ w'; exact bodyPost_panic rfl hb)); rintro x w5 ⟨xc, qc, rfl, hxc, hr3, hE1, hk3⟩; have hb3 := (hk3.block a3 (Array.getElem?_eq_some_iff.1 HC.out.2.1).1 hRa).trans HC.out.2.1; (have hF := four_facts hb3; obtain ⟨-, -, -, g3c, gfc⟩ := hF); have HD := Lib.hid (And.intro hr3 (And.intro hb3 (And.intro (HC.out.2.2.1.trans' hk3) (And.intro hE1 hxc)))); have g36 : (w5.alloc (.cells #[.int .i64 (on : Int), .int .i64 xa, .int .i64 xb, .int .i64 xc] 27)).cell? ⟨a3, 3, none⟩ = some (.slice po n cp) := (by rw [World.cell?_alloc_past _ _ _ (Array.getElem?_eq_some_iff.1 hb3).1]; exact g3c); (have hN := ins_next2 (x := ⟨(on : Int), xa, xb, xc⟩) hb3 (HD.out.2.2.1.row H6.out.2.1 (fun q e e2 => by have := (H6.out.2.1.lt q e).1; omega)) H6.out.2.2.2.1 hr3 (H6.out.2.2.1.trans' HD.out.2.2.1) hR1 hA (by omega); obtain ⟨g, cap, w6, hN⟩ := hN); have HM := Lib.hid hN; have g66 := HM.out.2.1; have gf6 := HM.out.2.2.1; clear hN; clear hr3 hb3 hk3 hE1 hxc)
              | (refine step_run (by rfl) (.tmp 17) (.tmp 28) 28 (by rfl) (.slice po n cp) (.slice (some ⟨w5.heap.size, 0, none⟩) 1 1) (by first | (simp [Act.eval]; done) | simp [Act.eval, Act.put]) (by first | (simp [Act.eval]; done) | simp [Act.eval, Act.put]) _ _ HM.out.1 ?_))
            all_goals
              refine Met.intro ?_
              go_step
              go_meet
              obtain ⟨po', n', c', m1, m2, m3, m4⟩ := HM.out.2.2.2
              exact ⟨rfl, qc, ⟨(on : Int), xa, xb, xc⟩, po', n', c', (by simp only [fitsI, HB.out.2.2.2.2, HC.out.2.2.2.2, HD.out.2.2.2.2, Bool.and_true]; rw [wi_true]; have := HA.out.2.2.2.2; omega), (by rw [HA.out.2.2.2.1, HB.out.2.2.2.1, HC.out.2.2.2.1, HD.out.2.2.2.1]; simp [encI]), m1, m2, m3, m4⟩
          case rest =>
            obtain ⟨rfl, qj', x, po', n', cp', hfx, hEx, hb', ho', hr', hk'⟩ := hcut
            have HE2 := Lib.hid (And.intro hfx (And.intro hEx (And.intro hb' (And.intro ho' (And.intro hr' hk')))))
            clear hfx hEx hb' ho' hr' hk'
            go_wp2_with fail
            go_roundg (n0 - (j + 1))
            case measure => omega
            case rel => exact ⟨j + 1, qj', c ++ [x], po', n', cp', by omega, rfl, by go_num, by rw [List.length_append, H6.out.2.2.2.1]; rfl, fun y hy => by
              rcases List.mem_append.1 hy with hy | hy
              · exact H6.out.2.2.2.2.1 y hy
              · rw [List.mem_singleton.1 hy]; exact HE2.out.1, by rw [encIs_one, ← HE2.out.2.1]; exact H6.out.2.2.2.2.2, HE2.out.2.2.1, HE2.out.2.2.2.1, HE2.out.2.2.2.2.1, HE2.out.2.2.2.2.2⟩
        · obtain rfl : j = n0 := by omega
          have hR := H1.out.2.2.2.1
          have hz1 := H1.out.2.2.2.2.1
          have hbx := (hk.block w.heap.size (by omega) (by omega)).trans H1.out.2.2.1
          obtain ⟨g0, g1, g2, g3, gf⟩ := four_facts hb
          obtain ⟨e0, e1, e2, e3, ef⟩ := four_facts hbx
          obtain ⟨hr9, hk9⟩ := fourSet_any (c0 := .string name) (c1 := .int .i64 an) (c2 := .int .i64 sn) (c3 := .slice po n cp) hbx
          rw [← hcl] at ho
          have hcode : CodeAt (Own (a3 + 1) wr) wr c (.slice po n cp) := insCells_at ho (by omega) fun x hx => by
            have h := hcf x hx
            simp only [fitsI, Bool.and_eq_true, wi_true] at h
            unfold In4.wf isI64
            omega
          have HD := Lib.hid (And.intro hr9 (And.intro hk9 (And.intro hcode (And.intro hr (And.intro hk (And.intro hbx (And.intro hz1 (And.intro hcf (And.intro hcE hcl)))))))))
          clear hr9 hk9 hcode hr hk hbx hb ho hz1 hcf hcE hcl
          go_wp2_with fail
          change bodyPost _ _ _ _ _ (fourSet wr w.heap.size (.string name) (.int .i64 an) (.int .i64 sn) (.slice po n cp))
          clear g0 g1 g2 g3 gf e0 e1 e2 e3 ef
          obtain ⟨w9, hw9⟩ : ∃ w9, fourSet wr w.heap.size (.string name) (.int .i64 an) (.int .i64 sn) (.slice po n cp) = w9 := ⟨_, rfl⟩
          rw [hw9]
          obtain ⟨hr9, hk9, hcode, hr, hk, hbx, hz1, hcf, hcE, hcl⟩ := HD.out
          rw [hw9] at hr9 hk9
          obtain ⟨i0, i1, i2, i3, -⟩ := four_facts hr9
          refine bodyPost_ret (v := .agg #[.string name, .int .i64 an, .int .i64 sn, .slice po n cp]) (by simp [results, Tryd.results42, go_sem, i0, i1, i2, i3]) rfl ?_
          have hs9 := hk9.size
          obtain ⟨hE, h3a, h3b, h3c⟩ := HE.out
          have hff : fitsF ⟨name, an, sn, c⟩ = true := by
            simp only [fitsF, Bool.and_eq_true, wi_true, List.all_eq_true]
            exact ⟨⟨by omega, by omega⟩, hcf⟩
          refine .inl ⟨⟨name, an, sn, c⟩, po, n, cp, qj, rfl, ⟨_, rfl, by simp only; unfold isI64; omega, by simp only; unfold isI64; omega, by simp only; unfold maxLen; omega, hcode.imp (fun q e => ⟨by have := e.1; omega, Nat.lt_of_lt_of_le e.2 hs9⟩) (cells_kp hk9 fun q e e2 => by have := e.1; omega)⟩, ⟨hff, h3a⟩, ?_, ?_, ?_⟩
          · exact ⟨(hk9.block R (Array.getElem?_eq_some_iff.1 hr.cells).1 (by omega)).trans hr.cells, bytes_kp hr.bytes hk9 (fun x e e2 => by omega), hr.le⟩
          · rw [hE, H5.out.2.2.2.2.1, hcE, ← hcl]
            simp [encF]
          · exact kp_new ((H1.out.2.1.mono fun _ _ e => e.elim : Kp (fun q => q = R) w w1).trans' hk) (hk9.mono fun x _ e => .inr (by omega))
    · obtain ⟨c, rfl⟩ := hf5.pan
      have HF := Lib.hid (show FunPost w R v l p (.panicked c) w5 from .inr ⟨(hf5.le Hc.out.2.2.2).le H1.out.2.2.2.2.2, nf_count hl HE.out.1 hno⟩)
      clear hf5 hno
      go_wp2_with fail
      exact bodyPost_panic rfl HF.out
end Go.Proofs.YtaeoohjgdkablaaDoor
