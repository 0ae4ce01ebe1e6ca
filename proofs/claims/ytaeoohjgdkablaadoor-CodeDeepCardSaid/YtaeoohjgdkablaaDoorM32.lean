/- The reader: a module, of any bytes. -/
import Derived.Test.YtaeoohjgdkablaaDoorM29
import Derived.Test.YtaeoohjgdkablaaDoorM31
/- The reader: a module, of any bytes. -/
namespace Go.Proofs.YtaeoohjgdkablaaDoor
open Go.RowKit

def okMd (m : Md) : Prop := okM m ∧ (∀ T ∈ m.lits, wfT T) ∧ m.name.size ≤ 1099511627776 ∧ ∀ f ∈ m.funcs, f.name.size ≤ 1099511627776
def NoM (l : List UInt8) : Prop := ∀ m y, okMd m → l ≠ encM m ++ y
/-- the end of module -/
def ModPost (w : World) (R : Nat) (l : List UInt8) (e : Ending) (w' : World) : Prop :=
  (∃ m hh po n c po2 n2 c2, e = .returned (.agg #[.string m.name, .slice po n c, .slice po2 n2 c2]) ∧ MdAt (Own w.heap.size w') w' hh m [.string m.name, .slice po n c, .slice po2 n2 c2] ∧ okMd m ∧ l = encM m ∧ Kp (fun q => q = R) w w') ∨
  (RFail R w e w' ∧ (∀ m, okMd m → l ≠ encM m) ∧ ∀ m y, okMd m → l = encM m ++ y → ∃ v, e = .panicked [{ v := v, recovered := false }] ∧ ChainB w.heap.size w' v [Lk.fault readS (encM m).length, Lk.kind 10])
/-- what is behind the literals -/
def restM (m : Md) (y : List UInt8) : List UInt8 := encNat m.funcs.length ++ (encFs m.funcs ++ y)
section
variable {w w1 wr : World} {R : Nat} {v : Value} {l : List UInt8} {p p1 p2 p3 q q' : Nat}
theorem mod_no {e : Ending} {w' : World} (hf : RFail R w e w') (hno : NoM l) : ModPost w R l e w' :=
  .inr ⟨hf, fun m hm h => hno m [] hm (by simpa using h), fun m y hm h => absurd h (hno m y hm)⟩
theorem encM_app (m : Md) (y : List UInt8) : encM m ++ y = [84, 82, 80, 69] ++ (encB m.name.data.toList ++ (encNat m.lits.length ++ (encTs m.lits ++ restM m y))) := by
  simp [encM, encL, restM]
theorem nm_byte {j : Nat} (hj : j < 4) (h : l[j]? ≠ [84, 82, 80, 69][j]?) : NoM l := fun m y _ e => by
  apply h
  rw [e, encM_app, List.getElem?_append_left (by simpa using hj)]
theorem fw_4 {m : Md} {y : List UInt8} (e : l = encM m ++ y) : l.drop 4 = encB m.name.data.toList ++ (encNat m.lits.length ++ (encTs m.lits ++ restM m y)) := by
  rw [e, encM_app]; rfl
theorem nm_name (hno : ∀ s y, s.length ≤ 1099511627776 → l.drop 4 ≠ encB s ++ y) : NoM l := fun m y hm e => by
  have hns : m.name.data.toList.length = m.name.size := Array.length_toList
  exact hno _ _ (by have := hm.2.2.1; omega) (fw_4 e)
theorem fw_1 {s : List UInt8} (E : l.drop 4 = encB s ++ l.drop p1) {m : Md} {y : List UInt8} (e : l = encM m ++ y) : l.drop p1 = encNat m.lits.length ++ (encTs m.lits ++ restM m y) := by
  have h := fw_4 e
  rw [E] at h
  exact (encB_cut h).2
theorem nm_lits {s : List UInt8} (hl : l.length ≤ 1000000000) (E : l.drop 4 = encB s ++ l.drop p1) (hno : ∀ n y, n ≤ 1099511627776 → n ≤ y.length → l.drop p1 ≠ encNat n ++ y) : NoM l := fun m y _ e => by
  have e1 := fw_1 E e
  have h1 := encTs_len m.lits
  have h2 := congrArg List.length e1
  simp only [List.length_drop, List.length_append] at h2
  exact hno _ _ (by omega) (by simp; omega) e1
/-- of each module that these bytes begin with, what stands behind j of its literals -/
def FwL (l : List UInt8) (nl j q : Nat) : Prop := ∀ m y, okMd m → l = encM m ++ y → m.lits.length = nl ∧ l.drop q = encTs (m.lits.drop j) ++ restM m y
def FwF (l : List UInt8) (nf j q : Nat) : Prop := ∀ m y, okMd m → l = encM m ++ y → m.funcs.length = nf ∧ l.drop q = encFs (m.funcs.drop j) ++ y
theorem fwl_0 {s : List UInt8} {nl : Nat} (E : l.drop 4 = encB s ++ l.drop p1) (E2 : l.drop p1 = encNat nl ++ l.drop p2) : FwL l nl 0 p2 := fun m y _ e => by
  have h := fw_1 E e
  rw [E2] at h
  obtain ⟨h1, h2⟩ := encNat_cut h
  exact ⟨h1.symm, h2⟩
theorem nm_lit {nl j : Nat} (hF : FwL l nl j q) (hj : j < nl) (hno : ∀ T0 y, wfT T0 → okT T0 → l.drop q ≠ encT T0 ++ y) : NoM l := fun m y hm e => by
  obtain ⟨h1, h2⟩ := hF m y hm e
  have hx : m.lits[j]? = some m.lits[j] := List.getElem?_eq_getElem (by omega)
  rw [encTs_take hx, List.append_assoc] at h2
  exact hno _ _ (hm.2.1 _ (List.mem_of_getElem? hx)) (hm.1.1 _ (List.mem_of_getElem? hx)) h2
theorem fwl_next {nl j : Nat} {T : Tm} (hF : FwL l nl j q) (hj : j < nl) (hT : ∀ T0 y, (wfT T0 ∧ l.drop q = encT T0 ++ y) ↔ (T0 = T ∧ l.drop q' = y)) : FwL l nl (j + 1) q' := fun m y hm e => by
  obtain ⟨h1, h2⟩ := hF m y hm e
  have hx : m.lits[j]? = some m.lits[j] := List.getElem?_eq_getElem (by omega)
  rw [encTs_take hx, List.append_assoc] at h2
  exact ⟨h1, ((hT _ _).1 ⟨hm.2.1 _ (List.mem_of_getElem? hx), h2⟩).2⟩
theorem fw_rest {nl : Nat} (hF : FwL l nl nl q) {m : Md} {y : List UInt8} (hm : okMd m) (e : l = encM m ++ y) : l.drop q = encNat m.funcs.length ++ (encFs m.funcs ++ y) := by
  obtain ⟨h1, h2⟩ := hF m y hm e
  have h3 : m.lits.drop nl = [] := List.drop_of_length_le (by omega)
  rw [h3] at h2
  exact h2
theorem nm_funs {nl : Nat} (hl : l.length ≤ 1000000000) (hF : FwL l nl nl q) (hno : ∀ n y, n ≤ 1099511627776 → n ≤ y.length → l.drop q ≠ encNat n ++ y) : NoM l := fun m y hm e => by
  have e1 := fw_rest hF hm e
  have h1 := encFs_len m.funcs
  have h2 := congrArg List.length e1
  simp only [List.length_drop, List.length_append] at h2
  exact hno _ _ (by omega) (by simp; omega) e1
theorem fwf_0 {nl nf : Nat} (hF : FwL l nl nl q) (E : l.drop q = encNat nf ++ l.drop p3) : FwF l nf 0 p3 := fun m y hm e => by
  have h := fw_rest hF hm e
  rw [E] at h
  obtain ⟨h1, h2⟩ := encNat_cut h
  exact ⟨h1.symm, h2⟩
theorem okMd_f {m : Md} (hm : okMd m) {f : Fn4} (hf : f ∈ m.funcs) : okF f := ⟨hm.1.2 f hf, hm.2.2.2 f hf⟩
theorem nm_fun {nf j : Nat} (hF : FwF l nf j q) (hj : j < nf) (hno : NoF l q) : NoM l := fun m y hm e => by
  obtain ⟨h1, h2⟩ := hF m y hm e
  have hx : m.funcs[j]? = some m.funcs[j] := List.getElem?_eq_getElem (by omega)
  rw [encFs_drop hx, List.append_assoc] at h2
  exact hno _ _ (okMd_f hm (List.mem_of_getElem? hx)) h2
theorem encF_cut {f g : Fn4} {x y : List UInt8} (h : encF f ++ x = encF g ++ y) : x = y := by
  simp only [encF, List.append_assoc] at h
  obtain ⟨h1, h2⟩ := encNat_cut (encNat_cut (encNat_cut (encB_cut h).2).2).2
  have h3 := encIs_cut (by omega) h2
  rw [List.drop_of_length_le (by omega)] at h3
  simpa [encIs] using h3
theorem fwf_next {nf j : Nat} {f : Fn4} (hF : FwF l nf j q) (hj : j < nf) (E : l.drop q = encF f ++ l.drop q') : FwF l nf (j + 1) q' := fun m y hm e => by
  obtain ⟨h1, h2⟩ := hF m y hm e
  have hx : m.funcs[j]? = some m.funcs[j] := List.getElem?_eq_getElem (by omega)
  rw [encFs_drop hx, List.append_assoc, E] at h2
  exact ⟨h1, encF_cut h2⟩
theorem fwf_end {nf : Nat} (hF : FwF l nf nf q) {m : Md} {y : List UInt8} (hm : okMd m) (e : l = encM m ++ y) : l.drop q = y := by
  obtain ⟨h1, h2⟩ := hF m y hm e
  have h3 : m.funcs.drop nf = [] := List.drop_of_length_le (by omega)
  rw [h3] at h2
  exact h2
/-- bytes behind a module's -/
theorem mod_more {nf : Nat} {w' : World} {x : Value} (hF : FwF l nf nf q) (hq : q < l.length) (hf : RFail R w (.panicked [{ v := x, recovered := false }]) w') (hx : ChainB w.heap.size w' x [Lk.fault readS q, Lk.kind 10]) : ModPost w R l (.panicked [{ v := x, recovered := false }]) w' := by
  refine .inr ⟨hf, fun m hm h => ?_, fun m y hm h => ⟨x, rfl, ?_⟩⟩
  · have h1 := congrArg List.length (fwf_end hF hm (y := []) (by simpa using h))
    simp at h1
    omega
  · have h1 := congrArg List.length (fwf_end hF hm h)
    have h2 := congrArg List.length h
    simp only [List.length_drop, List.length_append] at h1 h2
    rw [show (encM m).length = q by omega]
    exact hx
theorem literal_or (h : RAt w R v l p) (hl : l.length ≤ 1000000000) (hk : Kp (fun q => q = R) w1 w) {G : Ending → World → Prop} (hG : ∀ e w', RFail R w1 e w' → (∀ T0 y, wfT T0 → okT T0 → l.drop p ≠ encT T0 ++ y) → G e w') :
    Calls Tryd.prog 41 #[.pointer (some ⟨R, 0, none⟩)] w fun e w' => (∃ x, e = .returned x ∧ ∃ T h k n s a1 l1 c1 a2 l2 c2 a3 l3 c3 q, x = .agg #[.int .i64 k, .int .i64 n, .string s, .slice a1 l1 c1, .slice a2 l2 c2, .slice a3 l3 c3] ∧ TermAt (Own w.heap.size w') w' h T [.int .i64 k, .int .i64 n, .string s, .slice a1 l1 c1, .slice a2 l2 c2, .slice a3 l3 c3] ∧ okT T ∧ RAt w' R v l q ∧
      (∀ T0 y, (wfT T0 ∧ l.drop p = encT T0 ++ y) ↔ (T0 = T ∧ l.drop q = y)) ∧ Kp (fun q => q = R) w w') ∨ (∃ c, e = .panicked c ∧ G (.panicked c) w') := by
  refine (literal_any h hl).mono ?_
  rintro e w' (⟨T, h, k, n, s, a1, l1, c1, a2, l2, c2, a3, l3, c3, q, rfl, hT, ho, hr, _, hx, hk2⟩ | ⟨hf, hno⟩)
  · exact .inl ⟨_, rfl, T, h, k, n, s, a1, l1, c1, a2, l2, c2, a3, l3, c3, q, rfl, hT, ho, hr, hx, hk2⟩
  · obtain ⟨c, rfl⟩ := hf.pan
    exact .inr ⟨c, rfl, hG _ _ (hf.le hk) hno⟩
theorem function_or (h : RAt w R v l p) (hl : l.length ≤ 1000000000) (hk : Kp (fun q => q = R) w1 w) {G : Ending → World → Prop} (hG : ∀ e w', RFail R w1 e w' → NoF l p → G e w') :
    Calls Tryd.prog 42 #[.pointer (some ⟨R, 0, none⟩)] w fun e w' => (∃ x, e = .returned x ∧ ∃ f po n c q, x = .agg #[.string f.name, .int .i64 f.args, .int .i64 f.slots, .slice po n c] ∧ FnAt (Own w.heap.size w') w' f [.string f.name, .int .i64 f.args, .int .i64 f.slots, .slice po n c] ∧ okF f ∧ RAt w' R v l q ∧ l.drop p = encF f ++ l.drop q ∧ Kp (fun q => q = R) w w') ∨ (∃ c, e = .panicked c ∧ G (.panicked c) w') := by
  refine (function_any h hl).mono ?_
  rintro e w' (⟨f, po, n, c, q, rfl, h1, h2, h3, h4, h5⟩ | ⟨hf, hno⟩)
  · exact .inl ⟨_, rfl, f, po, n, c, q, rfl, h1, h2, h3, h4, h5⟩
  · obtain ⟨c, rfl⟩ := hf.pan
    exact .inr ⟨c, rfl, hG _ _ (hf.le hk) hno⟩
theorem LitsAt.ext {a4 : Nat} {name : ByteArray} {lits lits' : List Tm} {j : Nat} {po : Option Addr} {n c hh : Nat} {G : Nat → Prop} (h : LitsAt w1 R v l a4 name lits j q po n c hh G wr) (e : lits.take j = lits'.take j) : LitsAt w1 R v l a4 name lits' j q po n c hh G wr :=
  ⟨h.cells, e ▸ h.row, h.ap, h.lo, h.rd, h.kp⟩
theorem FunsAt.ext {a4 W0 : Nat} {name : ByteArray} {vl : Value} {GL : Nat → Prop} {lits : List Tm} {hh : Nat} {funcs funcs' : List Fn4} {j : Nat} {po : Option Addr} {n c : Nat} {G : Nat → Prop} (h : FunsAt w1 R v l a4 W0 name vl GL lits hh funcs j q po n c G wr) (e : funcs.take j = funcs'.take j) : FunsAt w1 R v l a4 W0 name vl GL lits hh funcs' j q po n c G wr :=
  ⟨h.cells, h.lits, h.gl, h.w0, e ▸ h.row, h.ap, h.lo, h.rd, h.kp⟩
theorem encTs_one (c : List Tm) (x : Tm) (y : List UInt8) : encTs (c ++ [x]) ++ y = encTs c ++ (encT x ++ y) := by simp [encTs_append, encTs]
theorem encFs_one (c : List Fn4) (x : Fn4) (y : List UInt8) : encFs (c ++ [x]) ++ y = encFs c ++ (encF x ++ y) := by simp [encFs]
theorem head_4 (h : ∀ i, i < 4 → l[i]? = [84, 82, 80, 69][i]?) : l = [84, 82, 80, 69] ++ l.drop 4 := by
  have h3 := h 3 (by omega)
  obtain ⟨hlt, -⟩ := List.getElem?_eq_some_iff.1 h3
  conv => lhs; rw [← List.take_append_drop 4 l]
  congr 1
  refine List.ext_getElem? fun i => ?_
  by_cases hi : i < 4
  · rw [List.getElem?_take_of_lt hi]; exact h i hi
  · rw [List.getElem?_eq_none (by simp; omega), List.getElem?_eq_none (by simp; omega)]
theorem take_one {α : Type} {c : List α} {x : α} {j : Nat} (h : c.length = j) : c.take j = (c ++ [x]).take j ∧ (c ++ [x])[j]? = some x ∧ (c ++ [x]).length = j + 1 := by
  subst h
  simp
end

set_option maxRecDepth 100000 in
set_option maxHeartbeats 40000000 in
theorem module_any {w : World} {R : Nat} {v : Value} {l : List UInt8} (h : RAt w R v l 0) (hl : l.length ≤ 1000000000) :
    Calls Tryd.prog 27 #[.pointer (some ⟨R, 0, none⟩)] w (ModPost w R l) := by
  have hRl := (Array.getElem?_eq_some_iff.1 h.cells).1
  obtain ⟨w1, hw1⟩ : ∃ w1, w.alloc (.cells #[.string ⟨#[]⟩, .slice none 0 0, .slice none 0 0] 33) = w1 := ⟨_, rfl⟩
  have hk1 : Kp (fun _ => False) w w1 := by rw [← hw1]; exact (Kp.refl _ w).alloc _
  have hbx : w1.heap[w.heap.size]? = some (.cells #[.string ⟨#[]⟩, .slice none 0 0, .slice none 0 0] 33 (0, 0)) := by rw [← hw1]; exact heap_alloc_new w _
  have h1 := h.kp hk1
  have hz0 : w.heap.size + 1 = w1.heap.size := by rw [← hw1]; simp
  have hkR : Kp (fun q => q = R) w w1 := hk1.mono fun _ _ e => e.elim
  have H1 := Lib.hid (And.intro hk1 (And.intro hbx (And.intro hRl hkR)))
  have Hz := Lib.hid hz0
  have HL := Lib.hid hl
  clear hk1 hbx hRl h hl hz0 hkR
  go_enter Tryd.func27, Tryd.ntmps27
  go_wp2_with fail
  try rw [hw1]
  clear hw1
  go_loopg [3, 5] 4 (fun gk xx jj wr => ∃ (j : Nat), j ≤ 4 ∧ gk = 4 - j ∧ jj = .int .i64 j ∧ (∀ i, i < j → l[i]? = [84, 82, 80, 69][i]?) ∧ RAt wr R v l j ∧ Kp (fun q => q = R) w1 wr)
  case atStart => exact ⟨0, by omega, rfl, rfl, fun i hi => by omega, h1, Kp.refl _ _⟩
  case round =>
    clear h1
    obtain ⟨j, hj, rfl, rfl, hmg, hr, hk⟩ := hrel
    by_cases hlt : j < 4
    · have hj4 : j = 0 ∨ j = 1 ∨ j = 2 ∨ j = 3 := by omega
      clear hj hlt
      rcases hj4 with rfl | rfl | rfl | rfl
      · have H0 := Lib.hid (fun (wx : World) (k : Kp (fun _ => False) wr wx) => next_or (w := wx) (w1 := w1) (G := ModPost w R l) (hr.kp k) (hk.trans' (k.mono fun _ _ e => e.elim)) fun _ _ hf hno => mod_no (hf.le H1.out.2.2.2) (nm_byte (j := 0) (by omega) (by rw [List.getElem?_eq_none (by omega)]; simp)))
        have HK := Lib.hid (And.intro hk hmg)
        clear hr hk hmg
        go_wp2_with fail
        go_region_law (refine step_fn_or (by rfl) 37 #[.tmp 8] #[88] (by rfl) cf_next #[.pointer (some ⟨R, 0, none⟩)] (by first | (simp [Act.eval]; done) | simp [Act.eval, Act.put]) (NextIs _ R v l 0) (fun c w' => ModPost w R l (.panicked c) w') (H0.out _ (Kp.refl _ _).drew) ?_ ?_; (focus (intro c w' hb; change bodyPost Tryd.prog Tryd.f27 (ModPost w R l) (Exit.panic c) _ w'; exact bodyPost_panic rfl hb)); rintro x w2 ⟨ch, rfl, hch, hr2, hE, hk2⟩; have H2 := Lib.hid (And.intro hr2 (And.intro hE (And.intro (HK.out.1.trans' (Kp.trans' (F := fun q => q = R) ((Kp.refl _ wr).drew) hk2)) hch))); clear hr2 hE hk2 hch)
        all_goals
          by_cases hcc : ch = 84
          · subst hcc
            have hl0 : l[0]? = some 84 := by
              have := congrArg (fun x : List UInt8 => x[0]?) H2.out.2.1
              simpa using this
            have H3 := Lib.hid hl0
            clear hl0
            go_wp2_with fail
            go_roundg 3
            case measure => omega
            case rel => exact ⟨1, by omega, by omega, by go_num, fun i hi => by
              by_cases e : i < 0
              · exact HK.out.2 i e
              · obtain rfl : i = 0 := by omega
                exact H3.out, H2.out.1, H2.out.2.2.1⟩
          · have hne : ((ch : Int) != (((⟨#[84, 82, 80, 69]⟩ : ByteArray)[0]'(by decide)).toNat : Int)) = true := by rw [show ((⟨#[84, 82, 80, 69]⟩ : ByteArray)[0]'(by decide)).toNat = 84 from rfl]; simp; omega
            have hno : NoM l := nm_byte (j := 0) (by omega) (by
              have h1 := congrArg (fun x : List UInt8 => x[0]?) H2.out.2.1
              simp at h1
              have h3 := H2.out.2.2.2
              rw [h1]
              intro e
              have e := congrArg UInt8.toNat (Option.some.inj e)
              rw [u8_of h3] at e
              exact hcc e)
            have HN := Lib.hid hno
            clear hno hcc
            go_wp2_with (go_at_call 38; refine (wrong_any _ _).mono ?_; rintro e w' ⟨rfl, rfl⟩)
            refine bodyPost_panic rfl ?_
            exact mod_no ((rfail_wrong _ H2.out.2.2.1).le H1.out.2.2.2) HN.out
      · have H0 := Lib.hid (fun (wx : World) (k : Kp (fun _ => False) wr wx) => next_or (w := wx) (w1 := w1) (G := ModPost w R l) (hr.kp k) (hk.trans' (k.mono fun _ _ e => e.elim)) fun _ _ hf hno => mod_no (hf.le H1.out.2.2.2) (nm_byte (j := 1) (by omega) (by rw [List.getElem?_eq_none (by omega)]; simp)))
        have HK := Lib.hid (And.intro hk hmg)
        clear hr hk hmg
        go_wp2_with fail
        go_region_law (refine step_fn_or (by rfl) 37 #[.tmp 8] #[88] (by rfl) cf_next #[.pointer (some ⟨R, 0, none⟩)] (by first | (simp [Act.eval]; done) | simp [Act.eval, Act.put]) (NextIs _ R v l 1) (fun c w' => ModPost w R l (.panicked c) w') (H0.out _ (Kp.refl _ _).drew) ?_ ?_; (focus (intro c w' hb; change bodyPost Tryd.prog Tryd.f27 (ModPost w R l) (Exit.panic c) _ w'; exact bodyPost_panic rfl hb)); rintro x w2 ⟨ch, rfl, hch, hr2, hE, hk2⟩; have H2 := Lib.hid (And.intro hr2 (And.intro hE (And.intro (HK.out.1.trans' (Kp.trans' (F := fun q => q = R) ((Kp.refl _ wr).drew) hk2)) hch))); clear hr2 hE hk2 hch)
        all_goals
          by_cases hcc : ch = 82
          · subst hcc
            have hl1 : l[1]? = some 82 := by
              have := congrArg (fun x : List UInt8 => x[0]?) H2.out.2.1
              simpa using this
            have H3 := Lib.hid hl1
            clear hl1
            go_wp2_with fail
            go_roundg 2
            case measure => omega
            case rel => exact ⟨2, by omega, by omega, by go_num, fun i hi => by
              by_cases e : i < 1
              · exact HK.out.2 i e
              · obtain rfl : i = 1 := by omega
                exact H3.out, H2.out.1, H2.out.2.2.1⟩
          · have hne : ((ch : Int) != (((⟨#[84, 82, 80, 69]⟩ : ByteArray)[1]'(by decide)).toNat : Int)) = true := by rw [show ((⟨#[84, 82, 80, 69]⟩ : ByteArray)[1]'(by decide)).toNat = 82 from rfl]; simp; omega
            have hno : NoM l := nm_byte (j := 1) (by omega) (by
              have h1 := congrArg (fun x : List UInt8 => x[0]?) H2.out.2.1
              simp at h1
              have h3 := H2.out.2.2.2
              rw [h1]
              intro e
              have e := congrArg UInt8.toNat (Option.some.inj e)
              rw [u8_of h3] at e
              exact hcc e)
            have HN := Lib.hid hno
            clear hno hcc
            go_wp2_with (go_at_call 38; refine (wrong_any _ _).mono ?_; rintro e w' ⟨rfl, rfl⟩)
            refine bodyPost_panic rfl ?_
            exact mod_no ((rfail_wrong _ H2.out.2.2.1).le H1.out.2.2.2) HN.out
      · have H0 := Lib.hid (fun (wx : World) (k : Kp (fun _ => False) wr wx) => next_or (w := wx) (w1 := w1) (G := ModPost w R l) (hr.kp k) (hk.trans' (k.mono fun _ _ e => e.elim)) fun _ _ hf hno => mod_no (hf.le H1.out.2.2.2) (nm_byte (j := 2) (by omega) (by rw [List.getElem?_eq_none (by omega)]; simp)))
        have HK := Lib.hid (And.intro hk hmg)
        clear hr hk hmg
        go_wp2_with fail
        go_region_law (refine step_fn_or (by rfl) 37 #[.tmp 8] #[88] (by rfl) cf_next #[.pointer (some ⟨R, 0, none⟩)] (by first | (simp [Act.eval]; done) | simp [Act.eval, Act.put]) (NextIs _ R v l 2) (fun c w' => ModPost w R l (.panicked c) w') (H0.out _ (Kp.refl _ _).drew) ?_ ?_; (focus (intro c w' hb; change bodyPost Tryd.prog Tryd.f27 (ModPost w R l) (Exit.panic c) _ w'; exact bodyPost_panic rfl hb)); rintro x w2 ⟨ch, rfl, hch, hr2, hE, hk2⟩; have H2 := Lib.hid (And.intro hr2 (And.intro hE (And.intro (HK.out.1.trans' (Kp.trans' (F := fun q => q = R) ((Kp.refl _ wr).drew) hk2)) hch))); clear hr2 hE hk2 hch)
        all_goals
          by_cases hcc : ch = 80
          · subst hcc
            have hl2 : l[2]? = some 80 := by
              have := congrArg (fun x : List UInt8 => x[0]?) H2.out.2.1
              simpa using this
            have H3 := Lib.hid hl2
            clear hl2
            go_wp2_with fail
            go_roundg 1
            case measure => omega
            case rel => exact ⟨3, by omega, by omega, by go_num, fun i hi => by
              by_cases e : i < 2
              · exact HK.out.2 i e
              · obtain rfl : i = 2 := by omega
                exact H3.out, H2.out.1, H2.out.2.2.1⟩
          · have hne : ((ch : Int) != (((⟨#[84, 82, 80, 69]⟩ : ByteArray)[2]'(by decide)).toNat : Int)) = true := by rw [show ((⟨#[84, 82, 80, 69]⟩ : ByteArray)[2]'(by decide)).toNat = 80 from rfl]; simp; omega
            have hno : NoM l := nm_byte (j := 2) (by omega) (by
              have h1 := congrArg (fun x : List UInt8 => x[0]?) H2.out.2.1
              simp at h1
              have h3 := H2.out.2.2.2
              rw [h1]
              intro e
              have e := congrArg UInt8.toNat (Option.some.inj e)
              rw [u8_of h3] at e
              exact hcc e)
            have HN := Lib.hid hno
            clear hno hcc
            go_wp2_with (go_at_call 38; refine (wrong_any _ _).mono ?_; rintro e w' ⟨rfl, rfl⟩)
            refine bodyPost_panic rfl ?_
            exact mod_no ((rfail_wrong _ H2.out.2.2.1).le H1.out.2.2.2) HN.out
      · have H0 := Lib.hid (fun (wx : World) (k : Kp (fun _ => False) wr wx) => next_or (w := wx) (w1 := w1) (G := ModPost w R l) (hr.kp k) (hk.trans' (k.mono fun _ _ e => e.elim)) fun _ _ hf hno => mod_no (hf.le H1.out.2.2.2) (nm_byte (j := 3) (by omega) (by rw [List.getElem?_eq_none (by omega)]; simp)))
        have HK := Lib.hid (And.intro hk hmg)
        clear hr hk hmg
        go_wp2_with fail
        go_region_law (refine step_fn_or (by rfl) 37 #[.tmp 8] #[88] (by rfl) cf_next #[.pointer (some ⟨R, 0, none⟩)] (by first | (simp [Act.eval]; done) | simp [Act.eval, Act.put]) (NextIs _ R v l 3) (fun c w' => ModPost w R l (.panicked c) w') (H0.out _ (Kp.refl _ _).drew) ?_ ?_; (focus (intro c w' hb; change bodyPost Tryd.prog Tryd.f27 (ModPost w R l) (Exit.panic c) _ w'; exact bodyPost_panic rfl hb)); rintro x w2 ⟨ch, rfl, hch, hr2, hE, hk2⟩; have H2 := Lib.hid (And.intro hr2 (And.intro hE (And.intro (HK.out.1.trans' (Kp.trans' (F := fun q => q = R) ((Kp.refl _ wr).drew) hk2)) hch))); clear hr2 hE hk2 hch)
        all_goals
          by_cases hcc : ch = 69
          · subst hcc
            have hl3 : l[3]? = some 69 := by
              have := congrArg (fun x : List UInt8 => x[0]?) H2.out.2.1
              simpa using this
            have H3 := Lib.hid hl3
            clear hl3
            go_wp2_with fail
            go_roundg 0
            case measure => omega
            case rel => exact ⟨4, by omega, by omega, by go_num, fun i hi => by
              by_cases e : i < 3
              · exact HK.out.2 i e
              · obtain rfl : i = 3 := by omega
                exact H3.out, H2.out.1, H2.out.2.2.1⟩
          · have hne : ((ch : Int) != (((⟨#[84, 82, 80, 69]⟩ : ByteArray)[3]'(by decide)).toNat : Int)) = true := by rw [show ((⟨#[84, 82, 80, 69]⟩ : ByteArray)[3]'(by decide)).toNat = 69 from rfl]; simp; omega
            have hno : NoM l := nm_byte (j := 3) (by omega) (by
              have h1 := congrArg (fun x : List UInt8 => x[0]?) H2.out.2.1
              simp at h1
              have h3 := H2.out.2.2.2
              rw [h1]
              intro e
              have e := congrArg UInt8.toNat (Option.some.inj e)
              rw [u8_of h3] at e
              exact hcc e)
            have HN := Lib.hid hno
            clear hno hcc
            go_wp2_with (go_at_call 38; refine (wrong_any _ _).mono ?_; rintro e w' ⟨rfl, rfl⟩)
            refine bodyPost_panic rfl ?_
            exact mod_no ((rfail_wrong _ H2.out.2.2.1).le H1.out.2.2.2) HN.out
    · obtain rfl : j = 4 := by omega
      have H2 := Lib.hid (And.intro hk hmg)
      have hR1 : R < w1.heap.size := by have h2 := H1.out.2.2.1; have := H1.out.1.size; omega
      have Hs := Lib.hid (some_or (G := ModPost w R l) hr hk fun _ _ hf hno => mod_no (hf.le H1.out.2.2.2) (nm_name hno))
      clear hr hk hmg
      go_wp2_with fail
      refine Hs.out.mono ?_
      rintro e w3 (⟨x, rfl, name, po, n, c, p1, rfl, hb3, hnm, hr3, hE1, hk3⟩ | ⟨c, rfl, hbad⟩)
      · obtain ⟨hcv, -⟩ := conv_two hb3
        have H3 := Lib.hid (And.intro hr3 (And.intro (H2.out.1.trans' hk3) (And.intro hE1 hnm)))
        clear hr3 hk3 hb3 Hs hE1 hnm
        go_wp2_with fail
        have hr4 := H3.out.1.kp ((Kp.refl (fun _ => False) w3).alloc (.cells #[.string name, .slice none 0 0, .slice none 0 0] 33))
        obtain ⟨w4, hw4⟩ : ∃ w4, w3.alloc (.cells #[.string name, .slice none 0 0, .slice none 0 0] 33) = w4 := ⟨_, rfl⟩
        have hb4 : w4.heap[w3.heap.size]? = some (.cells #[.string name, .slice none 0 0, .slice none 0 0] 33 (0, 0)) := by rw [← hw4]; exact heap_alloc_new w3 _
        have hk34 : Kp (fun _ => False) w3 w4 := by rw [← hw4]; exact (Kp.refl _ w3).alloc _
        rw [hw4] at hr4
        have Hc := Lib.hid (count_any hr4)
        have H4 := Lib.hid (And.intro hb4 (And.intro hk34 (And.intro (H3.out.2.1.trans' (hk34.mono fun _ _ e => e.elim)) H3.out.2.1.size)))
        clear hr4 hb4 hk34 hcv
        try rw [hw4]
        clear hw4
        refine Hc.out.mono ?_
        rintro e w5 (⟨nl, rfl, hn1, hn2, hr5, hE2, hk5⟩ | ⟨hf5, hno⟩)
        · obtain ⟨p2, hp2⟩ : ∃ p2, p2 = p1 + (encNat nl).length := ⟨_, rfl⟩
          rw [← hp2] at hn2 hr5 hE2
          have hb5 := (hk5.block _ (Array.getElem?_eq_some_iff.1 H4.out.1).1 (by have := H4.out.2.2.2; omega)).trans H4.out.1
          have H5 := Lib.hid (And.intro hr5 (And.intro (H4.out.2.2.1.trans' hk5) (And.intro hb5 (And.intro hE2 hn2))))
          clear hr5 hk5 hb5 Hc hE2 hn1 hn2 hp2
          go_wp2_with fail
          go_loopg [22] nl (fun gk jj wr => ∃ (j q : Nat) (lits : List Tm) (po : Option Addr) (n c hh : Nat) (G : Nat → Prop), j ≤ nl ∧ gk = nl - j ∧ jj = .int .i64 j ∧ lits.length = j ∧ (∀ T ∈ lits, okT T ∧ wfT T) ∧ l.drop p2 = encTs lits ++ l.drop q ∧ FwL l nl j q ∧ LitsAt w1 R v l w3.heap.size name lits j q po n c hh G wr)
          case atStart => exact ⟨0, p2, [], none, 0, 0, 0, fun _ => False, by omega, rfl, rfl, rfl, by simp, by simp [encTs], fwl_0 H3.out.2.2.1 H5.out.2.2.2.1, ⟨H5.out.2.2.1, ⟨Nat.le_refl _, by simp, [], by simpa using World.ownsRow_nil _ _ _ _, fun i t hi => by simp at hi⟩, fun _ _ e => e, fun _ e => e.elim, H5.out.1, H5.out.2.1⟩⟩
          case round =>
            obtain ⟨j, q, lits, po, n, c, hh, G, hj, rfl, rfl, hll, hok, hEq, hFw, hS⟩ := hrel
            have hA := H4.out.2.2.2
            have hlen : nl ≤ 1000000000 := by have := H5.out.2.2.2.2; have := HL.out; omega
            by_cases hlt : j < nl
            · have HLt := Lib.hid (fun (wx : World) (k : Kp (fun _ => False) wr wx) => literal_or (w := wx) (w1 := w1) (G := ModPost w R l) (hS.rd.kp k) HL.out (hS.kp.trans' (k.mono fun _ _ e => e.elim)) fun _ _ hf hno => mod_no (hf.le H1.out.2.2.2) (nm_lit hFw hlt hno))
              have g1 : wr.cell? ⟨w3.heap.size, 1, none⟩ = some (.slice po n c) := by rw [cell_of_row wr _ 1 _ _ _ hS.cells]; rfl
              have HS := Lib.hid (And.intro hS (And.intro hll (And.intro hok (And.intro hEq (And.intro hFw (And.intro hA hlen))))))
              clear hS hll hok hEq hFw H3 H4 H5 hA hlen
              go_upto_block 3 with fail
              go_cut [22] (fun s22 wx => s22 = .int .i64 j ∧ ∃ q' T po' n' c' hh' G', okT T ∧ (∀ T0 y, (wfT T0 ∧ l.drop q = encT T0 ++ y) ↔ (T0 = T ∧ l.drop q' = y)) ∧ LitsAt w1 R v l w3.heap.size name (lits ++ [T]) (j + 1) q' po' n' c' hh' G' wx)
              case first =>
                go_upto_region 10 with fail
                go_region_law (first
                  | (refine step_fn_or (by rfl) 41 #[.tmp 26] #[88] (by rfl) cf_literal #[.pointer (some ⟨R, 0, none⟩)] (by first | (simp [Act.eval]; done) | simp [Act.eval, Act.put]) _ (fun c w' => ModPost w R l (.panicked c) w') (HLt.out _ ((Kp.refl _ _).drew)) ?_ ?_; (focus (intro c w' hb; change bodyPost Tryd.prog Tryd.f27 (ModPost w R l) (Exit.panic c) _ w'; exact bodyPost_panic rfl hb)); rintro x w5 ⟨T, h, k, m5, s, a1, l1, d1, a2, l2, d2, a3, l3, d3, q', rfl, hT, hoT, hr5, hx, hk5⟩; have hN := lits_next (LitsAt.ext HS.out.1 (take_one (x := T) HS.out.2.1).1) (Kp.trans' (F := fun x => x = R) ((Kp.refl _ wr).drew) hk5) hr5 hT (take_one HS.out.2.1).2.1 hR1 HS.out.2.2.2.2.2.1 (by have := HS.out.2.2.2.2.2.2; omega); obtain ⟨hb5, g, cap, w6, hN⟩ := hN; have g51 : w5.cell? ⟨w3.heap.size, 1, none⟩ = some (.slice po n c) := (by rw [cell_of_row w5 _ 1 _ _ _ hb5]; rfl); have g56 : (w5.alloc (.cells #[.int .i64 k, .int .i64 m5, .string s, .slice a1 l1 d1, .slice a2 l2 d2, .slice a3 l3 d3] 25)).cell? ⟨w3.heap.size, 1, none⟩ = some (.slice po n c) := (by rw [World.cell?_alloc_past _ _ _ (Array.getElem?_eq_some_iff.1 hb5).1]; exact g51); have HN := Lib.hid (And.intro hN (And.intro hoT hx)); have g61 := HN.out.1.2.1; have gf6 := HN.out.1.2.2.1; clear hN hT hr5 hk5 hb5 hoT hx)
                  | (refine step_run (by rfl) (.tmp 25) (.tmp 28) 22 (by rfl) (.slice po n c) (.slice (some ⟨w5.heap.size, 0, none⟩) 1 1) (by first | (simp [Act.eval]; done) | simp [Act.eval, Act.put]) (by first | (simp [Act.eval]; done) | simp [Act.eval, Act.put]) _ _ HN.out.1.1 ?_))
                all_goals
                  refine Met.intro ?_
                  go_step
                  go_meet
                  exact ⟨rfl, _, _, _, _, _, _, _, HN.out.2.1, HN.out.2.2, HN.out.1.2.2.2⟩
              case rest =>
                obtain ⟨rfl, q', T, po', n', c', hh', G', hoT, hx, hS'⟩ := hcut
                obtain ⟨hwT, hxE⟩ := (hx T (l.drop q')).2 ⟨rfl, rfl⟩
                have HE := Lib.hid (And.intro hoT (And.intro hwT (And.intro hxE (And.intro (fwl_next HS.out.2.2.2.2.1 hlt hx) hS'))))
                clear hoT hwT hxE hx hS'
                go_wp2_with fail
                go_roundg (nl - (j + 1))
                case measure => omega
                case rel => exact ⟨j + 1, q', lits ++ [T], po', n', c', hh', G', by omega, rfl, by rw [show wrap64 ((j : Int) + 1) = ((j + 1 : Nat) : Int) from by have := HS.out.2.2.2.2.2.2; unfold wrap64; omega], by rw [List.length_append, HS.out.2.1]; rfl, fun y hy => by
                  rcases List.mem_append.1 hy with hy | hy
                  · exact HS.out.2.2.1 y hy
                  · rw [List.mem_singleton.1 hy]; exact ⟨HE.out.1, HE.out.2.1⟩, by rw [encTs_one, ← HE.out.2.2.1]; exact HS.out.2.2.2.1, HE.out.2.2.2.1, HE.out.2.2.2.2⟩
            · obtain rfl : j = nl := by omega
              have HM := Lib.hid (And.intro hll (And.intro hok (And.intro hEq hFw)))
              have HS := Lib.hid hS
              have Hn := Lib.hid (count_any hS.rd)
              clear hS hll hok hEq hFw
              go_wp2_with fail
              refine Hn.out.mono ?_
              rintro e w6 (⟨nf, rfl, hm1, hm2, hr6, hE3, hk6⟩ | ⟨hf6, hno⟩)
              · obtain ⟨p3, hp3⟩ : ∃ p3, p3 = q + (encNat nf).length := ⟨_, rfl⟩
                rw [← hp3] at hm2 hr6 hE3
                have hS1 : LitsAt w1 R v l w3.heap.size name lits lits.length q po n c hh G wr := HM.out.1.symm ▸ HS.out
                have HF := Lib.hid (And.intro (funs_first (funcs := []) hS1 hk6 hr6 hR1 hA) (And.intro hE3 hm2))
                clear hr6 hk6 hE3 hm1 hm2 hp3 Hn hS1
                go_wp2_with fail
                go_loopg [34] nf (fun gk jj wr => ∃ (j q : Nat) (fs : List Fn4) (po2 : Option Addr) (n2 c2 : Nat) (G2 : Nat → Prop), j ≤ nf ∧ gk = nf - j ∧ jj = .int .i64 j ∧ fs.length = j ∧ (∀ f ∈ fs, okF f) ∧ l.drop p3 = encFs fs ++ l.drop q ∧ FwF l nf j q ∧ FunsAt w1 R v l w3.heap.size w6.heap.size name (.slice po n c) (fun x => w3.heap.size + 1 ≤ x ∧ x < w6.heap.size) lits hh fs j q po2 n2 c2 G2 wr)
                case atStart => exact ⟨0, p3, [], none, 0, 0, _, by omega, rfl, rfl, rfl, by simp, by simp [encFs], fwf_0 HM.out.2.2.2 HF.out.2.1, HF.out.1⟩
                case round =>
                  obtain ⟨j2, q2, fs, po2, n2, c2, G2, hj, rfl, rfl, hll, hok, hEq, hFw, hS⟩ := hrel
                  have hlen2 : nf ≤ 1000000000 := by have := HF.out.2.2; have := HL.out; omega
                  by_cases hlt : j2 < nf
                  · have HLt := Lib.hid (fun (wx : World) (k : Kp (fun _ => False) wr wx) => function_or (w := wx) (w1 := w1) (G := ModPost w R l) (hS.rd.kp k) HL.out (hS.kp.trans' (k.mono fun _ _ e => e.elim)) fun _ _ hf hno => mod_no (hf.le H1.out.2.2.2) (nm_fun hFw hlt hno))
                    have g1 : wr.cell? ⟨w3.heap.size, 2, none⟩ = some (.slice po2 n2 c2) := by rw [cell_of_row wr _ 2 _ _ _ hS.cells]; rfl
                    have HS := Lib.hid (And.intro hS (And.intro hll (And.intro hok (And.intro hEq (And.intro hFw (And.intro hA hlen2))))))
                    clear hS hll hok hEq hFw H3 H4 H5 hA hlen hlen2 HM HF
                    go_upto_block 5 with fail
                    go_cut [34] (fun s34 wx => s34 = .int .i64 j2 ∧ ∃ q' f po' n' c' G', okF f ∧ l.drop q2 = encF f ++ l.drop q' ∧ FunsAt w1 R v l w3.heap.size w6.heap.size name (.slice po n c) (fun x => w3.heap.size + 1 ≤ x ∧ x < w6.heap.size) lits hh (fs ++ [f]) (j2 + 1) q' po' n' c' G' wx)
                    case first =>
                      go_upto_region 14 with fail
                      go_region_law (first
                        | (refine step_fn_or (by rfl) 42 #[.tmp 38] #[88] (by rfl) cf_function #[.pointer (some ⟨R, 0, none⟩)] (by first | (simp [Act.eval]; done) | simp [Act.eval, Act.put]) _ (fun c w' => ModPost w R l (.panicked c) w') (HLt.out _ ((Kp.refl _ _).drew)) ?_ ?_; (focus (intro c w' hb; change bodyPost Tryd.prog Tryd.f27 (ModPost w R l) (Exit.panic c) _ w'; exact bodyPost_panic rfl hb)); rintro x w5 ⟨f, p4, n4, c4, q', rfl, hT, hoF, hr5, hx, hk5⟩; have hN := fns_next (FunsAt.ext HS.out.1 (take_one (x := f) HS.out.2.1).1) (Kp.trans' (F := fun x => x = R) ((Kp.refl _ wr).drew) hk5) hr5 hT (take_one HS.out.2.1).2.1 hR1 HS.out.2.2.2.2.2.1 (by have := HS.out.2.2.2.2.2.2; omega); obtain ⟨hb5, g, cap, w9, hN⟩ := hN; have g51 : w5.cell? ⟨w3.heap.size, 2, none⟩ = some (.slice po2 n2 c2) := (by rw [cell_of_row w5 _ 2 _ _ _ hb5]; rfl); have g56 : (w5.alloc (.cells #[.string f.name, .int .i64 f.args, .int .i64 f.slots, .slice p4 n4 c4] 30)).cell? ⟨w3.heap.size, 2, none⟩ = some (.slice po2 n2 c2) := (by rw [World.cell?_alloc_past _ _ _ (Array.getElem?_eq_some_iff.1 hb5).1]; exact g51); have HN := Lib.hid (And.intro hN (And.intro hoF hx)); have g61 := HN.out.1.2.1; have gf6 := HN.out.1.2.2.1; clear hN hT hr5 hk5 hb5 hoF hx)
                        | (refine step_run (by rfl) (.tmp 37) (.tmp 40) 31 (by rfl) (.slice po2 n2 c2) (.slice (some ⟨w5.heap.size, 0, none⟩) 1 1) (by first | (simp [Act.eval]; done) | simp [Act.eval, Act.put]) (by first | (simp [Act.eval]; done) | simp [Act.eval, Act.put]) _ _ HN.out.1.1 ?_))
                      all_goals
                        refine Met.intro ?_
                        go_step
                        go_meet
                        exact ⟨rfl, _, _, _, _, _, _, HN.out.2.1, HN.out.2.2, HN.out.1.2.2.2⟩
                    case rest =>
                      obtain ⟨rfl, q', f, po', n', c', G', hoF, hx, hS'⟩ := hcut
                      have HE := Lib.hid (And.intro hoF (And.intro hx (And.intro (fwf_next HS.out.2.2.2.2.1 hlt hx) hS')))
                      clear hoF hx hS'
                      go_wp2_with fail
                      go_roundg (nf - (j2 + 1))
                      case measure => omega
                      case rel => exact ⟨j2 + 1, q', fs ++ [f], po', n', c', G', by omega, rfl, by rw [show wrap64 ((j2 : Int) + 1) = ((j2 + 1 : Nat) : Int) from by have := HS.out.2.2.2.2.2.2; unfold wrap64; omega], by rw [List.length_append, HS.out.2.1]; rfl, fun y hy => by
                        rcases List.mem_append.1 hy with hy | hy
                        · exact HS.out.2.2.1 y hy
                        · rw [List.mem_singleton.1 hy]; exact HE.out.1, by rw [encFs_one, ← HE.out.2.1]; exact HS.out.2.2.2.1, HE.out.2.2.1, HE.out.2.2.2⟩
                  · obtain rfl : j2 = nf := by omega
                    obtain ⟨pv, cv, rfl, -, -, -⟩ := id hS.rd.bytes
                    have c0 : wr.cell? ⟨R, 0, none⟩ = some (.slice pv l.length cv) := by rw [cell_of_row wr R 0 _ _ _ hS.rd.cells]; rfl
                    have c1 : wr.cell? ⟨R, 1, none⟩ = some (.int .i64 q2) := by rw [cell_of_row wr R 1 _ _ _ hS.rd.cells]; rfl
                    have hqle := hS.rd.le
                    obtain ⟨y0, y1, y2, yf⟩ := three_facts hS.cells
                    have hz1 := Hz.out
                    have hbx := (hS.kp.block w.heap.size (by omega) (by have := H1.out.2.2.1; omega)).trans H1.out.2.1
                    obtain ⟨e0, e1, e2, ef⟩ := three_facts hbx
                    have HS := Lib.hid (And.intro hS (And.intro hbx (And.intro hz1 (And.intro hA (And.intro hlen2 (And.intro hll (And.intro hok (And.intro hEq hFw))))))))
                    clear hS hbx hz1 hA hlen hlen2 hll hok hEq hFw
                    by_cases hend : q2 = l.length
                    · have hqn : ¬ ((q2 : Int) < l.length) := by omega
                      have HQ := Lib.hid hend
                      clear hend hqle
                      go_wp2_with fail
                      go_quiet (fail)
                      go_wp2_with fail
                      change bodyPost _ _ _ _ _ (threeSet (wr.drewN nq) w.heap.size (.string name) (.slice po n c) (.slice po2 n2 c2))
                      clear c0 c1 y0 y1 y2 yf e0 e1 e2 ef
                      obtain ⟨hS, hbx, hz1, hA, hlen2, hll, hok, hEq, hFw⟩ := HS.out
                      obtain ⟨w8, hw8⟩ : ∃ w8, wr.drewN nq = w8 := ⟨_, rfl⟩
                      have hk8 : Kp (fun _ => False) wr w8 := by rw [← hw8]; exact (Kp.refl _ wr).drewN nq
                      obtain ⟨hr9, hk9⟩ := threeSet_any (c0 := .string name) (c1 := .slice po n c) (c2 := .slice po2 n2 c2) ((hk8.block _ (Array.getElem?_eq_some_iff.1 hbx).1 (fun e => e)).trans hbx)
                      obtain ⟨w9, hw9⟩ : ∃ w9, threeSet w8 w.heap.size (.string name) (.slice po n c) (.slice po2 n2 c2) = w9 := ⟨_, rfl⟩
                      rw [hw8, hw9]
                      rw [hw9] at hr9 hk9
                      obtain ⟨i0, i1, i2, -⟩ := three_facts hr9
                      have hk89 : Kp (fun q => q = w.heap.size) wr w9 := (hk8.mono fun _ _ e => e.elim).trans' hk9
                      refine bodyPost_ret (v := .agg #[.string name, .slice po n c, .slice po2 n2 c2]) (by simp [results, Tryd.results27, go_sem, i0, i1, i2]) rfl ?_
                      have hS2 : FunsAt w1 R (.slice pv l.length cv) l w3.heap.size w6.heap.size name (.slice po n c) (fun x => w3.heap.size + 1 ≤ x ∧ x < w6.heap.size) lits hh fs fs.length q2 po2 n2 c2 G2 wr := hll.symm ▸ hS
                      have hnm := H3.out.2.2.2
                      refine .inl ⟨⟨name, lits, fs⟩, hh, po, n, c, po2, n2, c2, rfl, md_of hS2 hk89 (by omega) (by unfold maxLen; omega) (by omega), ⟨⟨fun T hT => (HM.out.2.1 T hT).1, fun f hf => (hok f hf).1⟩, fun T hT => (HM.out.2.1 T hT).2, hnm, fun f hf => (hok f hf).2⟩, ?_, kp_new ((H1.out.1.mono fun _ _ e => e.elim : Kp (fun q => q = R) w w1).trans' hS.kp) (hk89.mono fun x _ e => .inr (by omega))⟩
                      rw [head_4 H2.out.2, H3.out.2.2.1, H5.out.2.2.2.1, HM.out.2.2.1, HF.out.2.1, hEq, HQ.out, List.drop_length, ← hll, ← HM.out.1]
                      simp [encM, encL]
                    · have hlt2 : (q2 : Int) < l.length := by omega
                      have HQ := Lib.hid (show q2 < l.length by omega)
                      clear hend hqle
                      go_wp2_with fail
                      go_quiet (fail)
                      go_wp2_with (go_at_call 38; refine (wrong_any _ _).mono ?_; rintro e w' ⟨rfl, rfl⟩)
                      refine bodyPost_panic rfl ?_
                      have hkz := HS.out.1.kp.drewN nq
                      have hf9 := (rfail_wrong (q2 : Int) hkz).le H1.out.2.2.2
                      exact mod_more HS.out.2.2.2.2.2.2.2.2 HQ.out hf9 (ChainB.cons readS q2 (ChainB.root _ _ (by decide)) (by have h1 := H1.out.1.size; have h2 := HS.out.1.kp.size; show w.heap.size ≤ wr.heap.size; omega) (heap_alloc_new _ _))
              · obtain ⟨c, rfl⟩ := hf6.pan
                have HF := Lib.hid (show ModPost w R l (.panicked c) w6 from mod_no ((hf6.le HS.out.kp).le H1.out.2.2.2) (nm_funs HL.out HM.out.2.2.2 hno))
                clear hf6 hno
                go_wp2_with fail
                exact bodyPost_panic rfl HF.out
        · obtain ⟨c, rfl⟩ := hf5.pan
          have HF := Lib.hid (show ModPost w R l (.panicked c) w5 from mod_no ((hf5.le H4.out.2.2.1).le H1.out.2.2.2) (nm_lits HL.out H3.out.2.2.1 hno))
          clear hf5 hno
          go_wp2_with fail
          exact bodyPost_panic rfl HF.out
      · have HF := Lib.hid hbad
        clear hbad
        go_wp2_with fail
        exact bodyPost_panic rfl HF.out
end Go.Proofs.YtaeoohjgdkablaaDoor
