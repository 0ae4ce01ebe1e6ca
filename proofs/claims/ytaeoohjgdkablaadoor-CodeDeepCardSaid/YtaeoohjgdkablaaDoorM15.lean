/- The reader: number, count, integer, operand, some. A term's bytes as a stack reads them: heads, and what is to come. Plain data. -/
import Derived.Test.YtaeoohjgdkablaaDoorM14
/- The reader: number, count, integer, operand, some. -/
namespace Go.Proofs.YtaeoohjgdkablaaDoor
open Go.RowKit

/-- the end of number -/
def NumPost (w : World) (R : Nat) (v : Value) (l : List UInt8) (p : Nat) (e : Ending) (w' : World) : Prop :=
  (∃ n : Nat, e = .returned (.int .i64 n) ∧ n ≤ 1099511627776 ∧ RAt w' R v l (p + (encNat n).length) ∧ l.drop p = encNat n ++ l.drop (p + (encNat n).length) ∧ Kp (fun q => q = R) w w') ∨
  (RFail R w e w' ∧ ∀ n y, n ≤ 1099511627776 → l.drop p ≠ encNat n ++ y)
/-- the end of count -/
def CntPost (w : World) (R : Nat) (v : Value) (l : List UInt8) (p : Nat) (e : Ending) (w' : World) : Prop :=
  (∃ n : Nat, e = .returned (.int .i64 n) ∧ n ≤ 1099511627776 ∧ p + (encNat n).length + n ≤ l.length ∧ RAt w' R v l (p + (encNat n).length) ∧ l.drop p = encNat n ++ l.drop (p + (encNat n).length) ∧ Kp (fun q => q = R) w w') ∨
  (RFail R w e w' ∧ ∀ n y, n ≤ 1099511627776 → n ≤ y.length → l.drop p ≠ encNat n ++ y)

theorem RFail.pan {R : Nat} {w : World} {e : Ending} {w' : World} (h : RFail R w e w') : ∃ c, e = .panicked c := by
  obtain ⟨v, n, ls, h1, _⟩ := h
  exact ⟨_, h1⟩

set_option maxRecDepth 100000 in
theorem number_any {w : World} {R : Nat} {v : Value} {l : List UInt8} {p : Nat} (h : RAt w R v l p) :
    Calls Tryd.prog 51 #[.pointer (some ⟨R, 0, none⟩)] w (NumPost w R v l p) := by
  go_enter Tryd.func51, Tryd.ntmps51
  go_wp2_with fail
  refine (groups_any h 6 1099511627776 (by omega) (by omega) (by omega) (by decide)).mono ?_
  rintro e w' (⟨n, rfl, h1⟩ | ⟨hf, hno⟩)
  · have e1 : IntKind.i64.wrap (n : Int) = n := by rw [IntKind.wrap_i64]; have := h1.1; omega
    have H := Lib.hid h1
    clear h1 h
    go_wp2_with fail
    go_ret
    exact .inl ⟨n, rfl, H.out⟩
  · obtain ⟨c, rfl⟩ := hf.pan
    have H := Lib.hid (And.intro hf hno)
    clear hf hno h
    go_wp2_with fail
    exact bodyPost_panic rfl (.inr H.out)

set_option maxRecDepth 100000 in
set_option maxHeartbeats 800000 in
theorem count_any {w : World} {R : Nat} {v : Value} {l : List UInt8} {p : Nat} (h : RAt w R v l p) :
    Calls Tryd.prog 40 #[.pointer (some ⟨R, 0, none⟩)] w (CntPost w R v l p) := by
  have hroom := h.room
  obtain ⟨po, cap, rfl, _⟩ := id h.bytes
  have c1 : w.cell? ⟨R, 1, none⟩ = some (.int .i64 p) := by rw [cell_of_row w R 1 _ _ _ h.cells]; rfl
  have H := Lib.hid h
  clear h
  go_enter Tryd.func40, Tryd.ntmps40
  go_wp2_with fail
  refine (number_any H.out).mono ?_
  rintro e w2 (⟨n, rfl, h1, h2, h3, h4⟩ | ⟨hf, hno⟩)
  · have d0 : w2.cell? ⟨R, 0, none⟩ = some (.slice po l.length cap) := by rw [cell_of_row w2 R 0 _ _ _ h2.cells]; rfl
    have d1 : w2.cell? ⟨R, 1, none⟩ = some (.int .i64 (p + (encNat n).length : Nat)) := by rw [cell_of_row w2 R 1 _ _ _ h2.cells]; rfl
    have hle := h2.le
    obtain ⟨q, hq⟩ : ∃ q, p + (encNat n).length = q := ⟨_, rfl⟩
    rw [hq] at d1 hle
    have H2 := Lib.hid (And.intro h2 (And.intro h3 (And.intro h4 hq)))
    clear h2 h3 h4 hq
    by_cases hb : l.length < q + n
    · have hbi : (l.length : Int) - q < n := by omega
      go_wp2_with fail
      go_quiet (fail)
      go_wp2_with (go_at_call 38; refine (wrong_any _ _).mono ?_; rintro e w' ⟨rfl, rfl⟩)
      refine bodyPost_panic rfl ?_
      refine .inr ⟨rfail_wrong _ (H2.out.2.2.1.drewN _), fun m y hm hy e => ?_⟩
      obtain ⟨rfl, hy2⟩ := encNat_cut (H2.out.2.1.symm.trans e)
      have hq := H2.out.2.2.2
      have := congrArg List.length hy2
      rw [hq, List.length_drop] at this
      omega
    · have hbi : ¬ (l.length : Int) - q < n := by omega
      go_wp2_with fail
      go_quiet (fail)
      go_wp2_with fail
      go_ret
      have hq := H2.out.2.2.2
      exact .inl ⟨n, rfl, h1, by omega, H2.out.1.drewN _, H2.out.2.1, H2.out.2.2.1.drewN _⟩
  · obtain ⟨c, rfl⟩ := hf.pan
    have H2 := Lib.hid (And.intro hf hno)
    clear hf hno
    go_wp2_with fail
    exact bodyPost_panic rfl (.inr ⟨H2.out.1, fun n y hn _ => H2.out.2 n y hn⟩)

/-- the end of some: the bytes -/
def SomePost (w : World) (R : Nat) (v : Value) (l : List UInt8) (p : Nat) (e : Ending) (w' : World) : Prop :=
  (∃ s x, e = .returned x ∧ BytesAt (fun q => q < R) w' s x ∧ s.length ≤ 1099511627776 ∧ RAt w' R v l (p + (encB s).length) ∧ l.drop p = encB s ++ l.drop (p + (encB s).length) ∧ Kp (fun q => q = R) w w') ∨
  (RFail R w e w' ∧ ∀ s y, s.length ≤ 1099511627776 → l.drop p ≠ encB s ++ y)

theorem bytes_part {F : Nat → Prop} {w : World} {l : List UInt8} {po : Option Addr} {cap : Nat} (h : BytesAt F w l (.slice po l.length cap)) {i n : Nat} (hi : i + n ≤ l.length) (b off : Nat) (hp : po = some ⟨b, off, none⟩) :
    BytesAt F w ((l.drop i).take n) (.slice (some ⟨b, off + i, none⟩) n (cap - i)) := by
  obtain ⟨po', cap', e, h2, h3, h4⟩ := h
  injection e with e1 _ e3
  subst e1 e3
  have hl : ((l.drop i).take n).length = n := by rw [List.length_take, List.length_drop]; omega
  refine ⟨_, _, by rw [hl], by omega, by omega, fun j c hj => ?_⟩
  have hjn := (List.getElem?_eq_some_iff.1 hj).1
  rw [hl] at hjn
  rw [List.getElem?_take, if_pos hjn, List.getElem?_drop] at hj
  obtain ⟨b2, off2, e2, hF, hc⟩ := h4 _ c hj
  rw [hp] at e2
  have e2 := Option.some.inj e2
  rw [Addr.mk.injEq] at e2
  obtain ⟨rfl, rfl, _⟩ := e2
  exact ⟨b, off + i, rfl, hF, by rw [Nat.add_assoc]; exact hc⟩

theorem bytes_part' {F : Nat → Prop} {w : World} {l : List UInt8} {b off cap : Nat} (h : BytesAt F w l (.slice (some ⟨b, off, none⟩) l.length cap)) {q n : Nat} (hi : q + n ≤ l.length) (hc : l.length ≤ cap) :
    BytesAt F w ((l.drop q).take n) (.slice (if cap = q then some ⟨b, off, none⟩ else some ⟨b, off + q, none⟩) (q + n - q) (cap - q)) := by
  rw [show q + n - q = n by omega]
  by_cases hq : cap = q
  · rw [if_pos hq]
    obtain rfl : n = 0 := by omega
    rw [List.take_zero]
    exact ⟨_, _, rfl, by simp, by simp, fun i c hi => by simp at hi⟩
  · rw [if_neg hq]
    exact bytes_part h hi b off rfl

set_option maxRecDepth 100000 in
set_option maxHeartbeats 800000 in
theorem some_any {w : World} {R : Nat} {v : Value} {l : List UInt8} {p : Nat} (h : RAt w R v l p) :
    Calls Tryd.prog 39 #[.pointer (some ⟨R, 0, none⟩)] w (SomePost w R v l p) := by
  have hroom := h.room
  obtain ⟨po, cap, rfl, hcap, _⟩ := id h.bytes
  have H := Lib.hid h
  clear h
  go_enter Tryd.func39, Tryd.ntmps39
  go_wp2_with fail
  refine (count_any H.out).mono ?_
  rintro e w2 (⟨n, rfl, h1, hlen, h2, h3, h4⟩ | ⟨hf, hno⟩)
  · have hpos := encNat_pos n
    obtain ⟨b, off, rfl⟩ : ∃ b off, po = some ⟨b, off, none⟩ := by
      obtain ⟨po', cap', e, _, _, g4⟩ := h2.bytes
      injection e with e1 _ e3
      subst e1 e3
      obtain ⟨b, off, e, _⟩ := g4 0 l[0] (List.getElem?_eq_getElem (by omega))
      exact ⟨b, off, e⟩
    obtain ⟨q, hq⟩ : ∃ q, p + (encNat n).length = q := ⟨_, rfl⟩
    rw [hq] at h2 h3 hlen
    have hst := h2.step (p' := q + n) hlen
    have d1 : w2.cell? ⟨R, 1, none⟩ = some (.int .i64 q) := by rw [cell_of_row w2 R 1 _ _ _ h2.cells]; rfl
    have f1 : w2.frozen? ⟨R, 1, none⟩ = false := by simp [World.frozen?, h2.cells]
    obtain ⟨w3, hw3⟩ : ∃ w3, w2.setCell ⟨R, 1, none⟩ (.int .i64 (q + n)) = w3 := ⟨_, rfl⟩
    rw [Int.natCast_add, hw3] at hst
    have e0 : w3.cell? ⟨R, 0, none⟩ = some (.slice (some ⟨b, off, none⟩) l.length cap) := by rw [cell_of_row w3 R 0 _ _ _ hst.1.cells]; rfl
    have e1 : w3.cell? ⟨R, 1, none⟩ = some (.int .i64 (q + n)) := by rw [cell_of_row w3 R 1 _ _ _ hst.1.cells]; rfl
    have hL : l.drop p = encB ((l.drop q).take n) ++ l.drop (q + n) := by
      have hl : ((l.drop q).take n).length = n := by rw [List.length_take, List.length_drop]; omega
      rw [h3, encB, hl, List.append_assoc]
      congr 1
      rw [← List.drop_drop, List.take_append_drop]
    have hpl : p + (encB ((l.drop q).take n)).length = q + n := by
      have hl : ((l.drop q).take n).length = n := by rw [List.length_take, List.length_drop]; omega
      rw [encB, hl, List.length_append, hl]; omega
    have H2 := Lib.hid (And.intro hst (And.intro h4 (And.intro hL hpl)))
    clear hst h4 hL hpl h2 h3
    have hby := bytes_part' H2.out.1.1.bytes hlen hcap
    obtain ⟨aa, haa⟩ : ∃ aa, (if cap = q then some (⟨b, off, none⟩ : Addr) else some ⟨b, off + q, none⟩) = aa := ⟨_, rfl⟩
    rw [haa] at hby
    have Hb := Lib.hid hby
    have Ha := Lib.hid haa
    clear hby haa
    go_wp2_with fail
    go_quiet (fail)
    rw [Ha.out]
    go_wp2_with fail
    go_ret
    obtain ⟨⟨q1, q2⟩, q3, q4, q5⟩ := H2.out
    exact .inl ⟨(l.drop q).take n, _, rfl, bytes_kp Hb.out ((Kp.refl (fun _ => False) w3).drewN _) (fun _ _ e => e), by rw [List.length_take]; omega, by rw [q5]; exact q1.drewN _, by rw [q5]; exact q4, (q3.trans' q2).drewN _⟩
  · obtain ⟨c, rfl⟩ := hf.pan
    have H2 := Lib.hid (And.intro hf hno)
    clear hf hno
    go_wp2_with fail
    exact bodyPost_panic rfl (.inr ⟨H2.out.1, fun s y hs e => H2.out.2 s.length (s ++ y) hs (by simp) (by rw [e, encB, List.append_assoc])⟩)

theorem xor_i64 (a b : Int) : bits BinOp.xor IntKind.i64 a b = IntKind.i64.wrap ((BitVec.ofInt 64 a ^^^ BitVec.ofInt 64 b).toNat : Int) := rfl
theorem zag_bits (n : Nat) (hn : n < 18446744073709551616) : bits BinOp.xor IntKind.i64 ((n : Int) / 2) (wrap64 (-wrap64 (bits BinOp.and IntKind.u64 (n : Int) 1))) = zag n := by
  have h1 := and_low (n : Int) 1 (by omega) (by omega) (by omega)
  rw [show (2 : Int) ^ 1 - 1 = 1 by decide, show (2 : Int) ^ 1 = 2 by decide] at h1
  rw [h1]
  have e : ((n : Int) / 2) = ((n / 2 : Nat) : Int) := by omega
  have hb : (BitVec.ofInt 64 ((n / 2 : Nat) : Int)).toNat = n / 2 := by
    rw [BitVec.ofInt_natCast, BitVec.toNat_ofNat]; exact Nat.mod_eq_of_lt (by omega)
  by_cases h2 : n % 2 = 0
  · have e2 : wrap64 (-wrap64 ((n : Int) % 2)) = 0 := by
      unfold wrap64; omega
    rw [e2, e, xor_i64, show BitVec.ofInt 64 0 = 0#64 by decide, BitVec.xor_zero, hb, IntKind.wrap_i64]
    unfold zag
    rw [if_pos h2]; omega
  · have e2 : wrap64 (-wrap64 ((n : Int) % 2)) = -1 := by
      unfold wrap64; omega
    rw [e2, e, xor_i64, show BitVec.ofInt 64 (-1) = BitVec.allOnes 64 by decide, BitVec.xor_allOnes, BitVec.toNat_not, hb, IntKind.wrap_i64]
    unfold zag
    rw [if_neg h2]; omega

/-- the end of signed -/
def SigPost (w : World) (R : Nat) (v : Value) (l : List UInt8) (p most : Nat) (e : Ending) (w' : World) : Prop :=
  (∃ x : Int, e = .returned (.int .i64 x) ∧ zig x ≤ most ∧ RAt w' R v l (p + (encNat (zig x)).length) ∧ l.drop p = encNat (zig x) ++ l.drop (p + (encNat (zig x)).length) ∧ Kp (fun q => q = R) w w') ∨
  (RFail R w e w' ∧ ∀ x y, zig x ≤ most → l.drop p ≠ encNat (zig x) ++ y)

set_option maxRecDepth 100000 in
set_option maxHeartbeats 800000 in
theorem signed_any {w : World} {R : Nat} {v : Value} {l : List UInt8} {p : Nat} (h : RAt w R v l p) (most : Nat) (hm : most < 18446744073709551616) :
    Calls Tryd.prog 63 #[.pointer (some ⟨R, 0, none⟩), .int .u64 most] w (SigPost w R v l p most) := by
  go_enter Tryd.func63, Tryd.ntmps63
  go_wp2_with fail
  refine (groups_any h 10 most (by omega) (by omega) hm (Nat.lt_of_lt_of_le hm (by decide))).mono ?_
  rintro e w' (⟨n, rfl, h1⟩ | ⟨hf, hno⟩)
  · have hn := h1.1
    have H := Lib.hid h1
    clear h1 h
    go_wp2_with fail
    go_ret
    obtain ⟨q1, q2, q3, q4⟩ := H.out
    refine .inl ⟨zag n, by rw [← zag_bits n (by omega)]; rfl, ?_⟩
    rw [zig_zag]
    exact ⟨q1, q2, q3, q4⟩
  · obtain ⟨c, rfl⟩ := hf.pan
    have H := Lib.hid (And.intro hf hno)
    clear hf hno h
    go_wp2_with fail
    exact bodyPost_panic rfl (.inr ⟨H.out.1, fun x y hx => H.out.2 _ y hx⟩)

set_option maxRecDepth 100000 in
theorem operand_any {w : World} {R : Nat} {v : Value} {l : List UInt8} {p : Nat} (h : RAt w R v l p) :
    Calls Tryd.prog 53 #[.pointer (some ⟨R, 0, none⟩)] w (SigPost w R v l p 1099511627776) := by
  go_enter Tryd.func53, Tryd.ntmps53
  go_wp2_with fail
  refine (signed_any h 1099511627776 (by omega)).mono ?_
  rintro e w' (⟨n, rfl, h1⟩ | ⟨hf, hno⟩)
  · have H := Lib.hid h1
    clear h1 h
    go_wp2_with fail
    go_ret
    exact .inl ⟨n, rfl, H.out⟩
  · obtain ⟨c, rfl⟩ := hf.pan
    have H := Lib.hid (And.intro hf hno)
    clear hf hno h
    go_wp2_with fail
    exact bodyPost_panic rfl (.inr H.out)

set_option maxRecDepth 100000 in
theorem integer_any {w : World} {R : Nat} {v : Value} {l : List UInt8} {p : Nat} (h : RAt w R v l p) :
    Calls Tryd.prog 64 #[.pointer (some ⟨R, 0, none⟩)] w (SigPost w R v l p 18446744073709551615) := by
  go_enter Tryd.func64, Tryd.ntmps64
  go_wp2_with fail
  refine (signed_any h 18446744073709551615 (by omega)).mono ?_
  rintro e w' (⟨n, rfl, h1⟩ | ⟨hf, hno⟩)
  · have H := Lib.hid h1
    clear h1 h
    go_wp2_with fail
    go_ret
    exact .inl ⟨n, rfl, H.out⟩
  · obtain ⟨c, rfl⟩ := hf.pan
    have H := Lib.hid (And.intro hf hno)
    clear hf hno h
    go_wp2_with fail
    exact bodyPost_panic rfl (.inr H.out)
end Go.Proofs.YtaeoohjgdkablaaDoor

/- A term's bytes as a stack reads them: heads, and what is to come. Plain data. -/
namespace Go.Proofs.YtaeoohjgdkablaaDoor
open Go.RowKit

/-- what stands ahead of a term's parts -/
structure Hd where
  k : Int
  n : Int
  s : ByteArray
  bys : List UInt8
  m : Nat

def encH (d : Hd) : List UInt8 := UInt8.ofNat d.k.toNat :: (if d.k = 1 ∨ d.k = 3 ∨ d.k = 4 then encNat (zig d.n) else if d.k = 2 then encB d.s.data.toList else if d.k = 5 ∨ d.k = 7 then encNat d.m else if d.k = 8 then encB d.bys else [])
/-- just what its kind has -/
def Hd.wf (d : Hd) : Prop :=
  ((d.k = 1 ∨ d.k = 3 ∨ d.k = 4) ∧ zig d.n ≤ 18446744073709551615 ∧ d.s = ByteArray.empty ∧ d.bys = [] ∧ d.m = 0) ∨
  (d.k = 2 ∧ d.s.size ≤ 1099511627776 ∧ d.n = 0 ∧ d.bys = [] ∧ d.m = 0) ∨
  ((d.k = 5 ∨ d.k = 7) ∧ d.m ≤ 1099511627776 ∧ d.n = 0 ∧ d.s = ByteArray.empty ∧ d.bys = []) ∨
  (d.k = 6 ∧ d.n = 0 ∧ d.s = ByteArray.empty ∧ d.bys = [] ∧ d.m = 0) ∨
  (d.k = 8 ∧ d.bys.length ≤ 1099511627776 ∧ d.n = 0 ∧ d.s = ByteArray.empty ∧ d.m = 0)
theorem Hd.wf.kind {d : Hd} (h : d.wf) : d.k = 1 ∨ d.k = 2 ∨ d.k = 3 ∨ d.k = 4 ∨ d.k = 5 ∨ d.k = 6 ∨ d.k = 7 ∨ d.k = 8 := by
  unfold Hd.wf at h; omega

mutual
/-- a term that bytes can tell -/
def wfT : Tm → Prop
  | .mk k n s it re bys => Hd.wf ⟨k, n, s, bys, it.length⟩ ∧ wfTs it ∧ wfTs re ∧ (if k = 7 then re.length ≤ 1 else re = [])
def wfTs : List Tm → Prop
  | [] => True
  | t :: ts => wfT t ∧ wfTs ts
end
theorem wfTs_append {a b : List Tm} : wfTs (a ++ b) ↔ wfTs a ∧ wfTs b := by
  induction a with
  | nil => simp [wfTs]
  | cons t a ih => simp [wfTs, ih, and_assoc]
theorem encT_head {k n : Int} {s : ByteArray} {it re : List Tm} {bys : List UInt8} (h : wfT (.mk k n s it re bys)) :
    encT (.mk k n s it re bys) = encH ⟨k, n, s, bys, it.length⟩ ++ (encTs it ++ (if k = 7 then encNat re.length ++ encTs re else [])) := by
  rw [wfT] at h
  rw [encT, encH]
  have e0 : it.length = 0 → it = [] := List.eq_nil_of_length_eq_zero
  rcases h.1 with ⟨h1, _, _, _, h2⟩ | ⟨h1, _, _, _, h2⟩ | ⟨h1, _⟩ | ⟨h1, _, _, _, h2⟩ | ⟨h1, _, _, _, h2⟩
  · have h7 : ¬ k = 7 := by simp only at h1; omega
    simp only at h1 h2
    rw [e0 h2, if_pos h1, if_pos h1, if_neg h7]; simp [encTs]
  · simp only at h1 h2; subst h1
    rw [e0 h2]; simp [encTs]
  · simp only at h1
    rcases h1 with rfl | rfl <;> simp
  · simp only at h1 h2; subst h1
    rw [e0 h2]; simp [encTs]
  · simp only at h1 h2; subst h1
    rw [e0 h2]; simp [encTs]

/-- a term that is read: what came already, and how much is to come -/
structure Fr where
  hd : Hd
  its : List Tm
  res : List Tm
  left : Nat
  lst : Bool
  inR : Bool
def Fr.tm (f : Fr) : Tm := .mk f.hd.k f.hd.n f.hd.s f.its f.res f.hd.bys
def Fr.of (d : Hd) : Fr := ⟨d, [], [], d.m, decide (d.k = 7), false⟩
/-- a part more -/
def Fr.push (f : Fr) (t : Tm) : Fr := if f.inR then { f with res := f.res ++ [t], left := f.left - 1 } else { f with its := f.its ++ [t], left := f.left - 1 }
/-- a Rest is to come -/
def Fr.opened (f : Fr) : Fr := { f with lst := false, left := 1, inR := true }
def Fr.shut (f : Fr) : Fr := { f with lst := false }
/-- the term that is read out of x ahead of y -/
def Fin (f : Fr) (x : List UInt8) (T : Tm) (y : List UInt8) : Prop :=
  ∃ ts re, ts.length = f.left ∧ wfTs ts ∧ wfTs re ∧ (if f.lst then re.length ≤ 1 else re = []) ∧
    T = .mk f.hd.k f.hd.n f.hd.s (f.its ++ (if f.inR then [] else ts)) (f.res ++ (if f.inR then ts else re)) f.hd.bys ∧ x = encTs ts ++ ((if f.lst then encNat re.length ++ encTs re else []) ++ y)

theorem Fin.zero {f : Fr} {x y : List UInt8} {T : Tm} (h0 : f.left = 0) (h1 : f.lst = false) : Fin f x T y ↔ T = f.tm ∧ x = y := by
  constructor
  · rintro ⟨ts, re, a, _, _, b, rfl, rfl⟩
    obtain rfl := List.eq_nil_of_length_eq_zero (a.trans h0)
    rw [h1] at b
    simp at b
    subst b
    simp [h1, encTs, Fr.tm]
  · rintro ⟨rfl, rfl⟩
    exact ⟨[], [], by simp [h0], trivial, trivial, by simp [h1], by simp [Fr.tm], by simp [h1, encTs]⟩
theorem Fin.shut {f : Fr} {x y : List UInt8} {T : Tm} (h0 : f.left = 0) (h1 : f.lst = true) : Fin f (0 :: x) T y ↔ Fin f.shut x T y := by
  rw [Fin.zero (f := f.shut) h0 rfl]
  constructor
  · rintro ⟨ts, re, a, _, _, b, rfl, e⟩
    obtain rfl := List.eq_nil_of_length_eq_zero (a.trans h0)
    rw [h1] at b
    simp only [if_true] at b
    cases re with
    | nil =>
      simp [h1, encTs, encNat_small] at e
      simp [Fr.tm, Fr.shut, e]
    | cons r re =>
      obtain rfl : re = [] := by simpa using b
      simp [h1, encTs, encNat_small] at e
  · rintro ⟨rfl, rfl⟩
    exact ⟨[], [], by simp [h0], trivial, trivial, by simp [h1], by simp [Fr.tm, Fr.shut], by simp [h1, encTs, encNat_small]⟩
theorem Fin.open' {f : Fr} {x y : List UInt8} {T : Tm} (h0 : f.left = 0) (h1 : f.lst = true) (h2 : f.inR = false) (h3 : f.res = []) : Fin f (1 :: x) T y ↔ Fin f.opened x T y := by
  constructor
  · rintro ⟨ts, re, a, _, hr, b, rfl, e⟩
    obtain rfl := List.eq_nil_of_length_eq_zero (a.trans h0)
    rw [h1] at b
    simp only [if_true] at b
    cases re with
    | nil => simp [h1, encTs, encNat_small] at e
    | cons r re =>
      obtain rfl : re = [] := by simpa using b
      simp [h1, encTs, encNat_small] at e
      exact ⟨[r], [], rfl, hr, trivial, by simp [Fr.opened], by simp [Fr.opened, h2, h3], by simp [Fr.opened, encTs, e]⟩
  · rintro ⟨ts, re, a, ht, _, b, rfl, rfl⟩
    simp [Fr.opened] at a b
    subst b
    exact ⟨[], ts, by simp [h0], trivial, ht, by simp [h1, a], by simp [Fr.opened, h2, h3], by simp [h1, Fr.opened, encTs, a, encNat_small]⟩
theorem Fin.bad {f : Fr} {x y : List UInt8} {T : Tm} (h0 : f.left = 0) (h1 : f.lst = true) (hx : ∀ z, x ≠ 0 :: z ∧ x ≠ 1 :: z) : ¬ Fin f x T y := by
  rintro ⟨ts, re, a, _, _, b, rfl, rfl⟩
  obtain rfl := List.eq_nil_of_length_eq_zero (a.trans h0)
  rw [h1] at b
  simp only [if_true] at b
  cases re with
  | nil => exact (hx y).1 (by simp [h1, encTs, encNat_small])
  | cons r re =>
    obtain rfl : re = [] := by simpa using b
    exact (hx (encT r ++ y)).2 (by simp [h1, encTs, encNat_small])
theorem Fin.part {f : Fr} {x y : List UInt8} {T : Tm} (h0 : 0 < f.left) : Fin f x T y ↔ ∃ U x', wfT U ∧ x = encT U ++ x' ∧ Fin (f.push U) x' T y := by
  constructor
  · rintro ⟨ts, re, a, ht, hr, b, rfl, rfl⟩
    cases ts with
    | nil => simp at a; omega
    | cons U ts =>
      refine ⟨U, _, ht.1, by rw [encTs, List.append_assoc], ts, re, ?_, ht.2, hr, ?_, ?_, ?_⟩
      · unfold Fr.push; cases f.inR <;> simp at a ⊢ <;> omega
      · unfold Fr.push; cases f.inR <;> exact b
      · unfold Fr.push; cases f.inR <;> simp
      · unfold Fr.push; cases f.inR <;> rfl
  · rintro ⟨U, x', hU, rfl, ts, re, a, ht, hr, b, rfl, rfl⟩
    refine ⟨U :: ts, re, ?_, ⟨hU, ht⟩, hr, ?_, ?_, ?_⟩
    · unfold Fr.push at a; cases hh : f.inR <;> rw [hh] at a <;> simp at a ⊢ <;> omega
    · unfold Fr.push at b; cases hh : f.inR <;> rw [hh] at b <;> exact b
    · unfold Fr.push; cases f.inR <;> simp
    · unfold Fr.push; cases f.inR <;> simp [encTs]

theorem u8_inj {a b : Int} (ha : 1 ≤ a ∧ a ≤ 8) (hb : 1 ≤ b ∧ b ≤ 8) (h : UInt8.ofNat a.toNat = UInt8.ofNat b.toNat) : a = b := by
  have := congrArg UInt8.toNat h
  rw [u8_of (by omega), u8_of (by omega)] at this
  omega
theorem strext {s t : ByteArray} (h : s.data.toList = t.data.toList) : s = t := ByteArray.ext (Array.toList_inj.1 h)
/-- heads are told by their bytes -/
theorem encH_cut {d d' : Hd} {x x' : List UInt8} (h : d.wf) (h' : d'.wf) (e : encH d ++ x = encH d' ++ x') : d = d' ∧ x = x' := by
  have hk := h.kind
  have hk' := h'.kind
  unfold encH at e
  simp only [List.cons_append, List.cons.injEq] at e
  have ek := u8_inj (by omega) (by omega) e.1
  obtain ⟨k, n, s, bys, m⟩ := d
  obtain ⟨k', n', s', bys', m'⟩ := d'
  simp only at ek hk
  subst ek
  replace e := e.2
  simp only [Hd.wf] at h h' e
  rcases hk with rfl | rfl | rfl | rfl | rfl | rfl | rfl | rfl
  · simp at h h' e
    obtain ⟨e1, e2⟩ := encNat_cut e
    obtain ⟨_, rfl, rfl, rfl⟩ := h
    obtain ⟨_, rfl, rfl, rfl⟩ := h'
    exact ⟨by rw [zig_inj e1], e2⟩
  · simp at h h' e
    obtain ⟨e1, e2⟩ := encB_cut e
    obtain ⟨_, rfl, rfl, rfl⟩ := h
    obtain ⟨_, rfl, rfl, rfl⟩ := h'
    exact ⟨by rw [strext e1], e2⟩
  · simp at h h' e
    obtain ⟨e1, e2⟩ := encNat_cut e
    obtain ⟨_, rfl, rfl, rfl⟩ := h
    obtain ⟨_, rfl, rfl, rfl⟩ := h'
    exact ⟨by rw [zig_inj e1], e2⟩
  · simp at h h' e
    obtain ⟨e1, e2⟩ := encNat_cut e
    obtain ⟨_, rfl, rfl, rfl⟩ := h
    obtain ⟨_, rfl, rfl, rfl⟩ := h'
    exact ⟨by rw [zig_inj e1], e2⟩
  · simp at h h' e
    obtain ⟨e1, e2⟩ := encNat_cut e
    obtain ⟨_, rfl, rfl, rfl⟩ := h
    obtain ⟨_, rfl, rfl, rfl⟩ := h'
    exact ⟨by rw [e1], e2⟩
  · simp at h h' e
    obtain ⟨rfl, rfl, rfl, rfl⟩ := h
    obtain ⟨rfl, rfl, rfl, rfl⟩ := h'
    exact ⟨rfl, e⟩
  · simp at h h' e
    obtain ⟨e1, e2⟩ := encNat_cut e
    obtain ⟨_, rfl, rfl, rfl⟩ := h
    obtain ⟨_, rfl, rfl, rfl⟩ := h'
    exact ⟨by rw [e1], e2⟩
  · simp at h h' e
    obtain ⟨e1, e2⟩ := encB_cut e
    obtain ⟨_, rfl, rfl, rfl⟩ := h
    obtain ⟨_, rfl, rfl, rfl⟩ := h'
    exact ⟨by rw [e1], e2⟩

theorem Fin.of {d : Hd} (hd : d.wf) {x y : List UInt8} {U : Tm} : Fin (Fr.of d) x U y ↔ wfT U ∧ encH d ++ x = encT U ++ y := by
  obtain ⟨k, n, s, bys, m⟩ := d
  constructor
  · rintro ⟨ts, re, a, ht, hr, b, rfl, rfl⟩
    have hw : wfT (.mk k n s ts re bys) := by
      rw [wfT]
      refine ⟨?_, ht, hr, ?_⟩
      · rw [show ts.length = m from a]; exact hd
      · simpa [Fr.of] using b
    refine ⟨by simpa [Fr.of] using hw, ?_⟩
    have := encT_head hw
    rw [show ts.length = m from a] at this
    simp [Fr.of] at this ⊢
    rw [this]
    simp
  · obtain ⟨uk, un, us, ui, ur, ub⟩ := U
    rintro ⟨hw, e⟩
    rw [encT_head hw, List.append_assoc] at e
    rw [wfT] at hw
    obtain ⟨e1, e2⟩ := encH_cut hd hw.1 e
    injection e1 with e1 e3 e4 e5 e6
    subst e1 e3 e4 e5
    refine ⟨ui, ur, by simp [Fr.of, e6], hw.2.1, hw.2.2.1, by simpa [Fr.of] using hw.2.2.2, by simp [Fr.of], ?_⟩
    rw [e2]
    simp [Fr.of]
theorem wfT_head {U : Tm} (h : wfT U) : ∃ d z, d.wf ∧ encT U = encH d ++ z ∧ d.m ≤ z.length := by
  obtain ⟨k, n, s, it, re, bys⟩ := U
  refine ⟨⟨k, n, s, bys, it.length⟩, _, by rw [wfT] at h; exact h.1, encT_head h, ?_⟩
  have : ∀ ts : List Tm, ts.length ≤ (encTs ts).length := by
    intro ts
    induction ts with
    | nil => simp
    | cons t ts ih =>
      have h1 : 1 ≤ (encT t).length := by
        obtain ⟨k, n, s, it, re, bys⟩ := t
        rw [encT]; simp
      simp [encTs]; omega
  rw [List.length_append]
  exact Nat.le_trans (this it) (Nat.le_add_right _ _)

/-- behind a part, the others go on -/
def RunK : List Fr → Tm → List UInt8 → Tm → List UInt8 → Prop
  | [], T, x, T0, y => T0 = T ∧ x = y
  | f :: fs, T, x, T0, y => ∃ T' x', Fin (f.push T) x T' x' ∧ RunK fs T' x' T0 y
/-- the term that is read out of x ahead of y, by frames, the innermost first -/
def Runs : List Fr → List UInt8 → Tm → List UInt8 → Prop
  | [], _, _, _ => False
  | f :: fs, x, T0, y => ∃ T x', Fin f x T x' ∧ RunK fs T x' T0 y

theorem Runs.congr {f g : Fr} {fs : List Fr} {x x' : List UInt8} (h : ∀ T y, Fin f x T y ↔ Fin g x' T y) (T0 : Tm) (y : List UInt8) : Runs (f :: fs) x T0 y ↔ Runs (g :: fs) x' T0 y := by
  simp only [Runs, h]
theorem Runs.pop {f g : Fr} {fs : List Fr} {x : List UInt8} (h0 : f.left = 0) (h1 : f.lst = false) (T0 : Tm) (y : List UInt8) : Runs (f :: g :: fs) x T0 y ↔ Runs (g.push f.tm :: fs) x T0 y := by
  constructor
  · rintro ⟨T, x', h, h2⟩
    obtain ⟨rfl, rfl⟩ := (Fin.zero h0 h1).1 h
    exact h2
  · intro h
    exact ⟨_, _, (Fin.zero h0 h1).2 ⟨rfl, rfl⟩, h⟩
theorem Runs.last {f : Fr} {x : List UInt8} (h0 : f.left = 0) (h1 : f.lst = false) (T0 : Tm) (y : List UInt8) : Runs [f] x T0 y ↔ T0 = f.tm ∧ x = y := by
  constructor
  · rintro ⟨T, x', h, h2⟩
    obtain ⟨rfl, rfl⟩ := (Fin.zero h0 h1).1 h
    exact h2
  · intro h
    exact ⟨_, _, (Fin.zero h0 h1).2 ⟨rfl, rfl⟩, h⟩
theorem Runs.down {f : Fr} {fs : List Fr} {d : Hd} {x : List UInt8} (hd : d.wf) (h0 : 0 < f.left) (T0 : Tm) (y : List UInt8) : Runs (f :: fs) (encH d ++ x) T0 y ↔ Runs (Fr.of d :: f :: fs) x T0 y := by
  constructor
  · rintro ⟨T, x', h, h2⟩
    obtain ⟨U, x2, hU, e, h3⟩ := (Fin.part h0).1 h
    exact ⟨U, x2, (Fin.of hd).2 ⟨hU, e⟩, T, x', h3, h2⟩
  · rintro ⟨U, x2, h, T, x', h3, h2⟩
    obtain ⟨hU, e⟩ := (Fin.of hd).1 h
    exact ⟨T, x', (Fin.part h0).2 ⟨U, x2, hU, e, h3⟩, h2⟩
/-- no head, no term -/
theorem Runs.none {f : Fr} {fs : List Fr} {x : List UInt8} (h0 : 0 < f.left) (hx : ∀ d z, d.wf → d.m ≤ z.length → x ≠ encH d ++ z) (T0 : Tm) (y : List UInt8) : ¬ Runs (f :: fs) x T0 y := by
  rintro ⟨T, x', h, _⟩
  obtain ⟨U, x2, hU, e, _⟩ := (Fin.part h0).1 h
  obtain ⟨d, z, hd, e2, hm⟩ := wfT_head hU
  exact hx d (z ++ x2) hd (by simp; omega) (by rw [e, e2, List.append_assoc])
end Go.Proofs.YtaeoohjgdkablaaDoor
