/- Both tables side by side, beside the caller's blocks. -/
import Derived.Test.YtdcmdidikengbaaTbRef8
import Derived.Test.YtdcmdidikengbaaTbRef9
namespace Go.Proofs.Ytdcmdidikengbaa
open Go.RowKit
set_option linter.unusedVariables false

/-- the blocks of the document's table -/
def X2 (b2 g1 g2 : Nat) (v2 : Value) : Nat → Prop := fun q => q = b2 ∨ q = g1 ∨ q = g2 ∨ v2.ownBlock = some q
/-- both tables, newer than w0; C: the caller's blocks -/
def PT (w0 : World) (C : Nat → Prop) (w : World) (b1 b2 size B : Nat) (sl1 : List Sg) (ns1 : List Nm) (sl2 : List Sg) (ns2 : List Nm) : Prop :=
  ∃ g1 g2 v2, TS w0 (fun q => C q ∨ X2 b2 g1 g2 v2 q) w b1 size B sl1 ns1 ∧ RT w b2 g1 g2 v2 size sl2 ns2 ∧ ∀ q, X2 b2 g1 g2 v2 q → w0.heap.size ≤ q ∧ ¬ C q
section
variable {C C' F : Nat → Prop} {w0 w w' : World} {b1 b2 size B B' : Nat} {sl sl1 sl2 sl' : List Sg} {ns ns1 ns2 ns' : List Nm} {p : Int} {s : ByteArray}
theorem PT.put (h : PT w0 C w b1 b2 size B sl1 ns1 sl2 ns2) (hk : Kp (fun _ => False) w w') (hC : ∀ q, C' q → C q ∨ (w.heap.size ≤ q ∧ q < w'.heap.size)) : PT w0 C' w' b1 b2 size B sl1 ns1 sl2 ns2 := by
  obtain ⟨g1, g2, v2, h1, h2, h3⟩ := h
  obtain ⟨l1, l2, l3, l4⟩ := h2.lt
  refine ⟨g1, g2, v2, h1.put hk (fun q hq => ?_), h2.same hk, fun q hq => ⟨(h3 q hq).1, fun e => ?_⟩⟩
  · rcases hq with hq | hq
    · exact (hC q hq).imp .inl (fun e => e)
    · exact .inl (.inr hq)
  · rcases hC q e with e2 | e2
    · exact (h3 q hq).2 e2
    · rcases hq with rfl | rfl | rfl | hq
      · omega
      · omega
      · omega
      · have := l4 q hq; omega
theorem PT.same (h : PT w0 C w b1 b2 size B sl1 ns1 sl2 ns2) (hk : Kp (fun _ => False) w w') : PT w0 C w' b1 b2 size B sl1 ns1 sl2 ns2 := h.put hk (fun _ e => .inl e)
theorem PT.le (h : PT w0 C w b1 b2 size B sl1 ns1 sl2 ns2) (hB : B ≤ B') : PT w0 C w b1 b2 size B' sl1 ns1 sl2 ns2 := by
  obtain ⟨g1, g2, v2, h1, h2⟩ := h
  exact ⟨g1, g2, v2, h1.le hB, h2⟩
theorem PT.kp0 (h : PT w0 C w b1 b2 size B sl1 ns1 sl2 ns2) : Kp (fun _ => False) w0 w := by obtain ⟨g1, g2, v2, h1, -⟩ := h; exact h1.kp0
/-- the caller turns blocks of its own -/
theorem PT.turn {D : Nat → Prop} (h : PT w0 C w b1 b2 size B sl1 ns1 sl2 ns2) (hk : Kp D w w') (hD : ∀ q, D q → C q ∧ w0.heap.size ≤ q) (hC : ∀ q, C' q → C q ∨ (w.heap.size ≤ q ∧ q < w'.heap.size)) : PT w0 C' w' b1 b2 size B sl1 ns1 sl2 ns2 := by
  obtain ⟨g1, g2, v2, h1, h2, h3⟩ := h
  obtain ⟨l1, l2, l3, l4⟩ := h2.lt
  have hn : ∀ q, X2 b2 g1 g2 v2 q → ¬ D q := fun q hq e => (h3 q hq).2 (hD q e).1
  refine ⟨g1, g2, v2, h1.turn hk (fun q hq => ⟨.inl (hD q hq).1, (hD q hq).2⟩) (fun q hq => ?_), h2.kp hk (hn _ (.inl rfl)) (hn _ (.inr (.inl rfl))) (hn _ (.inr (.inr (.inl rfl)))) (fun g hg => hn g (.inr (.inr (.inr hg)))), fun q hq => ⟨(h3 q hq).1, fun e => ?_⟩⟩
  · rcases hq with hq | hq
    · exact (hC q hq).imp .inl (fun e => e)
    · exact .inl (.inr hq)
  · rcases hC q e with e2 | e2
    · exact (h3 q hq).2 e2
    · rcases hq with rfl | rfl | rfl | hq
      · omega
      · omega
      · omega
      · have := l4 q hq; omega
/-- the first table is turned -/
theorem pt_one {g1 g2 : Nat} {v2 : Value} (h2 : RT w b2 g1 g2 v2 size sl2 ns2) (h3 : ∀ q, X2 b2 g1 g2 v2 q → w0.heap.size ≤ q ∧ ¬ C q) (h1 : TS w0 (fun q => C q ∨ X2 b2 g1 g2 v2 q) w' b1 size B' sl' ns') (hk : Kp (fun q => ¬ (C q ∨ X2 b2 g1 g2 v2 q)) w w') :
    PT w0 C w' b1 b2 size B' sl' ns' sl2 ns2 ∧ Kp (fun q => ¬ C q) w w' :=
  ⟨⟨g1, g2, v2, h1, h2.kp hk (fun e => e (.inr (.inl rfl))) (fun e => e (.inr (.inr (.inl rfl)))) (fun e => e (.inr (.inr (.inr (.inl rfl))))) (fun g hg e => e (.inr (.inr (.inr (.inr hg))))), h3⟩, hk.mono fun q _ e e2 => e (.inl e2)⟩
/-- the second table is turned -/
theorem pt_two {g1 g2 : Nat} {v2 v2' : Value} (h1 : TS w0 (fun q => C q ∨ X2 b2 g1 g2 v2 q) w b1 size B sl1 ns1) (h3 : ∀ q, X2 b2 g1 g2 v2 q → w0.heap.size ≤ q ∧ ¬ C q) (hC : ∀ q, C q → q < w.heap.size) (h2 : RT w' b2 g1 g2 v2' size sl' ns') (hk : Kp (X2 b2 g1 g2 v2) w w') (hn : ∀ g, v2'.ownBlock = some g → v2.ownBlock = some g ∨ w.heap.size ≤ g) :
    PT w0 C w' b1 b2 size B sl1 ns1 sl' ns' ∧ Kp (fun q => ¬ C q) w w' := by
  have hz := h1.kp0.size
  obtain ⟨l1, l2, l3, l4⟩ := h2.lt
  refine ⟨⟨g1, g2, v2', h1.turn hk (fun q hq => ⟨.inr hq, (h3 q hq).1⟩) (fun q hq => ?_), h2, fun q hq => ?_⟩, hk.mono fun q _ e => (h3 q e).2⟩
  · rcases hq with hq | rfl | rfl | rfl | hq
    · exact .inl (.inl hq)
    · exact .inl (.inr (.inl rfl))
    · exact .inl (.inr (.inr (.inl rfl)))
    · exact .inl (.inr (.inr (.inr (.inl rfl))))
    · rcases hn q hq with e | e
      · exact .inl (.inr (.inr (.inr (.inr e))))
      · exact .inr ⟨e, l4 q hq⟩
  · rcases hq with rfl | rfl | rfl | hq
    · exact h3 _ (.inl rfl)
    · exact h3 _ (.inr (.inl rfl))
    · exact h3 _ (.inr (.inr (.inl rfl)))
    · rcases hn q hq with e | e
      · exact h3 q (.inr (.inr (.inr e)))
      · exact ⟨by omega, fun e2 => by have := hC q e2; omega⟩
theorem PT.ltC (h : PT w0 C w b1 b2 size B sl1 ns1 sl2 ns2) : ∀ q, C q → q < w.heap.size := by
  obtain ⟨g1, g2, v2, ⟨mb, v, -, -, h1, -⟩, -⟩ := h
  exact fun q hq => h1 q (.inl hq)

/-! Add -/
theorem p1_add (h : PT w0 C w b1 b2 size B sl ns sl2 ns2) (hf : freeAt sl < size) (hB : B + 64 ≤ 2305843009213693952) :
    Calls Try.prog 11 #[.pointer (some ⟨b1, 0, none⟩)] w (fun e w' => e = .returned (.tuple #[.int .i64 (addPid sl : Nat), .nilIface]) ∧ PT w0 C w' b1 b2 size (B + 64) (addTo sl) ns sl2 ns2 ∧ Kp (fun q => ¬ C q) w w') := by
  obtain ⟨g1, g2, v2, h1, h2, h3⟩ := h
  refine (ts_add h1 hf hB).mono ?_
  rintro e w' ⟨rfl, h4, h5⟩
  exact ⟨rfl, pt_one h2 h3 h4 h5⟩
theorem p2_add (h : PT w0 C w b1 b2 size B sl1 ns1 sl ns) (hok : SlOk B sl) (hB : B ≤ 2305843009213693952) (hs : size ≤ 64) (hf : freeAt sl < size) :
    Calls Try.prog 26 #[.pointer (some ⟨b2, 0, none⟩)] w (fun e w' => e = .returned (.tuple #[.int .i64 (addPid sl : Nat), .pointer none]) ∧ PT w0 C w' b1 b2 size B sl1 ns1 (addTo sl) ns ∧ Kp (fun q => ¬ C q) w w') := by
  have hC := h.ltC
  obtain ⟨g1, g2, v2, h1, h2, h3⟩ := h
  refine (xtadd_ok h2 hok hB hs hf).mono ?_
  rintro e w' ⟨rfl, h4, h5⟩
  exact ⟨rfl, pt_two h1 h3 hC h4 (h5.mono fun q _ e => e.elim (fun e => .inr (.inl e)) (fun e => .inr (.inr (.inl e)))) (fun g hg => .inl hg)⟩
theorem p1_add_full (h : PT w0 C w b1 b2 size B sl ns sl2 ns2) (hf : freeAt sl = size) :
    Calls Try.prog 11 #[.pointer (some ⟨b1, 0, none⟩)] w (EBad w (fun v => .tuple #[.int .i64 (-1), v]) [Lk.fault ⟨#[97, 100, 100]⟩ (size : Nat), Lk.kind 2]) := by
  obtain ⟨g1, g2, v2, h1, -⟩ := h
  exact ts_add_full h1 hf
theorem p2_add_full (h : PT w0 C w b1 b2 size B sl1 ns1 sl ns) (hs : size ≤ 64) (hf : freeAt sl = size) :
    Calls Try.prog 26 #[.pointer (some ⟨b2, 0, none⟩)] w (XBad w (fun v => .tuple #[.int .i64 (-1), v]) [Lk.fault ⟨#[97, 100, 100]⟩ (size : Nat), Lk.kind 2]) := by
  obtain ⟨g1, g2, v2, h1, h2, -⟩ := h
  exact xtadd_full h2 hs hf

/-- Drop, its row among the caller's blocks -/
theorem ts_drop_row {b : Nat} (h : TS w0 C w b size B sl ns) (p : Nat) (hk : kindAt sl (p : Nat) = 0) : Calls Try.prog 14 #[.pointer (some ⟨b, 0, none⟩), .int .i64 (p : Nat)] w
    (fun e w' => ∃ u, e = .returned (.tuple #[u, .nilIface]) ∧ Sw w' u (txts (ofPid ns p)) ∧ (∀ g, u.ownBlock = some g → w.heap.size ≤ g) ∧ TS w0 (fun q => C q ∨ u.ownBlock = some q) w' b size B (dropAt sl (p % 64)) (without ns p) ∧ Kp (fun q => ¬ C q) w w') := by
  obtain ⟨mb, v, h1, h2, h3, h4⟩ := h
  refine (drop_ok h1 p hk).mono ?_
  rintro e w' ⟨u, rfl, h5, h6, h7, h8⟩
  have hz := h8.size
  refine ⟨u, rfl, h5, h6, ⟨mb, v, h7, fun q hq => ⟨(h2 q hq).1, fun e => e.elim (h2 q hq).2 (fun e => ?_)⟩, fun q hq => hq.elim (fun e => by have := h3 q e; omega) (fun e => h5.lt q e), h4.trans (h8.mono fun q hq e => .inr ⟨(h2 q (e.elim (fun e => .inr (.inl e)) (fun e => .inr (.inr e)))).1, hq⟩)⟩, h8.mono fun q _ e => (h2 q (e.elim (fun e => .inr (.inl e)) (fun e => .inr (.inr e)))).2⟩
  have := h6 q e
  rcases hq with rfl | rfl | hq
  · have := h1.ltb; omega
  · have := h1.mp.lt; omega
  · have := h1.ltv q hq; omega
/-! what each call tells, and makes -/
def errL (op : ByteArray) (n k : Int) : List Lk := if k = 0 then [] else [Lk.fault op n, Lk.kind k]
def dropSl (sl : List Sg) (p : Int) : List Sg := if kindAt sl p = 0 then dropAt sl (p.toNat % 64) else sl
def dropNs (sl : List Sg) (ns : List Nm) (p : Int) : List Nm := if kindAt sl p = 0 then without ns p.toNat else ns
def dropTx (sl : List Sg) (ns : List Nm) (p : Int) : List ByteArray := if kindAt sl p = 0 then txts (ofPid ns p.toNat) else []
def regNs (sl : List Sg) (ns : List Nm) (s : ByteArray) (p : Int) : List Nm := if nameKind sl ns s p = 0 then putNm ns ⟨s, p.toNat⟩ else ns
def unregNs (ns : List Nm) (s : ByteArray) : List Nm := if (whose ns s).isSome = true then butFor ns s else ns
def whereErr (ns : List Nm) (s : ByteArray) : List Lk := if (whose ns s).isSome = true then [] else [Lk.fault ⟨#[110, 97, 109, 101]⟩ (s.size : Nat), Lk.kind 3]
def whereN (ns : List Nm) (s : ByteArray) : Int := match whose ns s with | some q => (q : Nat) | none => -1
theorem kp_ok {L : List Lk} (hL : L = []) (hk : Kp (fun q => ¬ C q) w w') : Kp (fun q => L = [] ∧ ¬ C q) w w' := hk.mono fun q _ e => ⟨hL, e⟩
theorem chain_on {L : List Lk} {u : Value} (h : Chain w u L) (hk : Kp (fun q => L = [] ∧ ¬ C q) w w') : Chain w' u L := by
  cases L with
  | nil => exact h
  | cons a L => exact Chain.kp (hk.mono fun _ _ e => by cases e.1) _ _ h
theorem xch_on {L : List Lk} {u : Value} (h : XCh w u L) (hk : Kp (fun q => L = [] ∧ ¬ C q) w w') : XCh w' u L := by
  cases L with
  | nil => exact h
  | cons a L => exact XCh.kp (hk.mono fun _ _ e => by cases e.1) _ _ h
theorem kind_nat {p : Int} (hk : kindAt sl p = 0) : ((p.toNat : Nat) : Int) = p := by
  obtain ⟨s, h0, -⟩ := kindAt_live.1 hk
  omega
theorem p1_drop (h : PT w0 C w b1 b2 size B sl ns sl2 ns2) (p : Int) :
    Calls Try.prog 14 #[.pointer (some ⟨b1, 0, none⟩), .int .i64 p] w (fun e w' => ∃ r u, e = .returned (.tuple #[r, u]) ∧ Sw w' r (dropTx sl ns p) ∧ Chain w' u (errL ⟨#[100, 114, 111, 112]⟩ (slotAt p) (kindAt sl p)) ∧
      PT w0 (fun q => C q ∨ r.ownBlock = some q) w' b1 b2 size B (dropSl sl p) (dropNs sl ns p) sl2 ns2 ∧ Kp (fun q => errL ⟨#[100, 114, 111, 112]⟩ (slotAt p) (kindAt sl p) = [] ∧ ¬ C q) w w') := by
  unfold errL dropTx dropSl dropNs
  by_cases hk : kindAt sl p = 0
  · rw [if_pos hk, if_pos hk, if_pos hk, if_pos hk]
    have hp := kind_nat hk
    obtain ⟨P, hP⟩ : ∃ P, p.toNat = P := ⟨_, rfl⟩
    rw [hP] at hp ⊢
    subst hp
    obtain ⟨g1, g2, v2, h1, h2, h3⟩ := h
    refine (ts_drop_row h1 P hk).mono ?_
    rintro e w' ⟨u, rfl, h4, h5, h6, h7⟩
    have hz := h7.size
    obtain ⟨l1, l2, l3, l4⟩ := h2.lt
    refine ⟨u, .nilIface, rfl, h4, rfl, ⟨g1, g2, v2, h6.put (Kp.refl _ _) (fun q hq => .inl ?_), h2.kp h7 (fun e => e (.inr (.inl rfl))) (fun e => e (.inr (.inr (.inl rfl)))) (fun e => e (.inr (.inr (.inr (.inl rfl))))) (fun g hg e => e (.inr (.inr (.inr (.inr hg))))), fun q hq => ⟨(h3 q hq).1, fun e => ?_⟩⟩, h7.mono fun q _ e => ⟨by first | rfl | (unfold errL; rw [if_pos hk]), fun e2 => e (.inl e2)⟩⟩
    · rcases hq with (hq | hq) | hq
      · exact .inl (.inl hq)
      · exact .inr hq
      · exact .inl (.inr hq)
    · rcases e with e | e
      · exact (h3 q hq).2 e
      · have := h5 q e
        rcases hq with rfl | rfl | rfl | hq
        · omega
        · omega
        · omega
        · have := l4 q hq; omega
  · rw [if_neg hk, if_neg hk, if_neg hk, if_neg hk]
    obtain ⟨g1, g2, v2, h1, h2, h3⟩ := h
    refine (ts_drop_bad h1 p hk).mono ?_
    rintro e w' ⟨u, rfl, hu, hk2⟩
    exact ⟨_, u, rfl, Sw.nil _, hu.out, PT.put ⟨g1, g2, v2, h1, h2, h3⟩ hk2 (fun q hq => hq.elim .inl (fun e => by cases e)), hk2.mono fun _ _ e => e.elim⟩
theorem XBad.errL {mk : Value → Value} {op : ByteArray} {n k : Int} {e : Ending} (hk : k ≠ 0) (h : XBad w mk [Lk.fault op n, Lk.kind k] e w') : ∃ u, e = .returned (mk u) ∧ XCh w' u (errL op n k) ∧ Kp (fun _ => False) w w' := by
  obtain ⟨u, h1, h2, h3⟩ := h
  exact ⟨u, h1, by unfold Go.Proofs.Ytdcmdidikengbaa.errL; rw [if_neg hk]; exact h2, h3⟩
theorem EBad.errL {mk : Value → Value} {op : ByteArray} {n k : Int} {e : Ending} (hk : k ≠ 0) (h : EBad w mk [Lk.fault op n, Lk.kind k] e w') : ∃ u, e = .returned (mk u) ∧ Chain w' u (errL op n k) ∧ Kp (fun _ => False) w w' := by
  obtain ⟨u, h1, h2, h3⟩ := h
  exact ⟨u, h1, by unfold Go.Proofs.Ytdcmdidikengbaa.errL; rw [if_neg hk]; exact h2.out, h3⟩
/-- what is known of a table -/
structure TbK (size B : Nat) (sl : List Sg) (ns : List Nm) : Prop where
  ok : SlOk B sl
  fit : sl.length ≤ size
  s64 : size ≤ 64
  few : ns.length ≤ 64
  ord : ns.Pairwise NmLt
theorem PT.know (h : PT w0 C w b1 b2 size B sl ns sl2 ns2) : TbK size B sl ns := by
  obtain ⟨g1, g2, v2, ⟨mb, v, h1, -⟩, -⟩ := h
  exact ⟨h1.ok, h1.fit, h1.size2, h1.few, h1.mp.ord⟩
theorem p2_drop (h : PT w0 C w b1 b2 size B sl1 ns1 sl ns) (hK : TbK size B sl ns) (hB : B ≤ 2305843009213693952) (p : Int) (hp2 : p ≤ 9223372036854775807) :
    Calls Try.prog 27 #[.pointer (some ⟨b2, 0, none⟩), .int .i64 p] w (fun e w' => ∃ r u, e = .returned (.tuple #[r, u]) ∧ Sw w' r (dropTx sl ns p) ∧ XCh w' u (errL ⟨#[100, 114, 111, 112]⟩ (slotAt p) (kindAt sl p)) ∧
      PT w0 C w' b1 b2 size B sl1 ns1 (dropSl sl p) (dropNs sl ns p) ∧ Kp (fun q => errL ⟨#[100, 114, 111, 112]⟩ (slotAt p) (kindAt sl p) = [] ∧ ¬ C q) w w') := by
  unfold dropTx dropSl dropNs
  by_cases hk : kindAt sl p = 0
  · rw [if_pos hk, if_pos hk, if_pos hk]
    have hp := kind_nat hk
    obtain ⟨P, hP⟩ : ∃ P, p.toNat = P := ⟨_, rfl⟩
    rw [hP] at hp ⊢
    subst hp
    have hC := h.ltC
    obtain ⟨g1, g2, v2, h1, h2, h3⟩ := h
    refine (xtdrop_ok h2 hK.ok hB hK.fit hK.s64 hK.few P hp2 hk).mono ?_
    rintro e w' ⟨u, v', rfl, h4, h5, h6, h7, h8⟩
    exact ⟨u, .pointer none, rfl, h4, by unfold errL; rw [if_pos hk]; rfl, And.imp_right (kp_ok (by unfold errL; rw [if_pos hk])) <| pt_two h1 h3 hC h6 (h8.mono fun q _ e => e.elim .inl (fun e => .inr (.inr (.inl e)))) (fun g hg => .inr (h7 g hg).1)⟩
  · rw [if_neg hk, if_neg hk, if_neg hk]
    obtain ⟨g1, g2, v2, h1, h2, h3⟩ := h
    refine (xtdrop_bad h2 hK.ok hB hK.fit hK.s64 p hp2 hk).mono ?_
    rintro e w' hx
    obtain ⟨u, rfl, hu, hk2⟩ := hx.errL hk
    exact ⟨_, u, rfl, Sw.nil _, hu, PT.same ⟨g1, g2, v2, h1, h2, h3⟩ hk2, hk2.mono fun _ _ e => e.elim⟩
theorem p1_live (h : PT w0 C w b1 b2 size B sl ns sl2 ns2) (p : Int) : Calls Try.prog 12 #[.pointer (some ⟨b1, 0, none⟩), .int .i64 p] w fun e w' => e = .returned (.bool (decide (kindAt sl p = 0))) ∧ w = w' := by
  obtain ⟨g1, g2, v2, h1, -⟩ := h
  exact ts_live h1 p
theorem p2_live (h : PT w0 C w b1 b2 size B sl1 ns1 sl ns) (hK : TbK size B sl ns) (hB : B ≤ 2305843009213693952) (p : Int) (hp2 : p ≤ 9223372036854775807) :
    Calls Try.prog 29 #[.pointer (some ⟨b2, 0, none⟩), .int .i64 p] w fun e w' => e = .returned (.bool (decide (kindAt sl p = 0))) ∧ w = w' := by
  obtain ⟨g1, g2, v2, h1, h2, -⟩ := h
  exact xtlive_any h2 hK.ok hB hK.fit hK.s64 p hp2
def slotRes (sl : List Sg) (p : Int) : Int := if kindAt sl p = 0 then slotAt p else -1
theorem p1_slot (h : PT w0 C w b1 b2 size B sl ns sl2 ns2) (p : Int) : Calls Try.prog 15 #[.pointer (some ⟨b1, 0, none⟩), .int .i64 p] w
    (fun e w' => ∃ u, e = .returned (.tuple #[.int .i64 (slotRes sl p), u]) ∧ Chain w' u (errL ⟨#[115, 108, 111, 116]⟩ (slotAt p) (kindAt sl p)) ∧ Kp (fun _ => False) w w') := by
  obtain ⟨g1, g2, v2, h1, -⟩ := h
  unfold slotRes
  by_cases hk : kindAt sl p = 0
  · rw [if_pos hk]
    refine (ts_slot h1 p hk).mono ?_
    rintro e w' ⟨rfl, rfl⟩
    exact ⟨_, rfl, by unfold errL; rw [if_pos hk]; rfl, Kp.refl _ _⟩
  · rw [if_neg hk]
    refine (ts_slot_bad h1 p hk).mono ?_
    rintro e w' hx
    exact hx.errL hk
theorem p2_slot (h : PT w0 C w b1 b2 size B sl1 ns1 sl ns) (hK : TbK size B sl ns) (hB : B ≤ 2305843009213693952) (p : Int) (hp2 : p ≤ 9223372036854775807) : Calls Try.prog 30 #[.pointer (some ⟨b2, 0, none⟩), .int .i64 p] w
    (fun e w' => ∃ u, e = .returned (.tuple #[.int .i64 (slotRes sl p), u]) ∧ XCh w' u (errL ⟨#[115, 108, 111, 116]⟩ (slotAt p) (kindAt sl p)) ∧ Kp (fun _ => False) w w') := by
  obtain ⟨g1, g2, v2, h1, h2, -⟩ := h
  unfold slotRes
  by_cases hk : kindAt sl p = 0
  · rw [if_pos hk]
    refine (xtslot_ok h2 hK.ok hB hK.fit hK.s64 p hp2 hk).mono ?_
    rintro e w' ⟨rfl, rfl⟩
    exact ⟨_, rfl, by unfold errL; rw [if_pos hk]; rfl, Kp.refl _ _⟩
  · rw [if_neg hk]
    refine (xtslot_bad h2 hK.ok hB hK.fit hK.s64 p hp2 hk).mono ?_
    rintro e w' hx
    exact hx.errL hk
theorem nk_nat {p : Int} (hk : nameKind sl ns s p = 0) : ((p.toNat : Nat) : Int) = p := kind_nat (nameKind_ok hk).2.2.1
theorem p1_reg (h : PT w0 C w b1 b2 size B sl ns sl2 ns2) (hs : s.size ≤ maxLen) (p : Int) : Calls Try.prog 17 #[.pointer (some ⟨b1, 0, none⟩), .string s, .int .i64 p] w
    (fun e w' => ∃ u, e = .returned u ∧ Chain w' u (errL ⟨#[114, 101, 103, 105, 115, 116, 101, 114]⟩ (s.size : Nat) (nameKind sl ns s p)) ∧ PT w0 C w' b1 b2 size B sl (regNs sl ns s p) sl2 ns2 ∧ Kp (fun q => errL ⟨#[114, 101, 103, 105, 115, 116, 101, 114]⟩ (s.size : Nat) (nameKind sl ns s p) = [] ∧ ¬ C q) w w') := by
  obtain ⟨g1, g2, v2, h1, h2, h3⟩ := h
  unfold regNs
  by_cases hk : nameKind sl ns s p = 0
  · rw [if_pos hk]
    have hp := nk_nat hk
    have := ts_reg h1 s p.toNat (by rw [hp]; exact hk)
    rw [hp] at this
    refine this.mono ?_
    rintro e w' ⟨rfl, h4, h5⟩
    exact ⟨_, rfl, by unfold errL; rw [if_pos hk]; rfl, And.imp_right (kp_ok (by unfold errL; rw [if_pos hk])) <| pt_one h2 h3 h4 h5⟩
  · rw [if_neg hk]
    refine (ts_reg_bad h1 s hs p hk).mono ?_
    rintro e w' hx
    obtain ⟨u, rfl, hu, hk2⟩ := hx.errL hk
    exact ⟨u, rfl, hu, PT.same ⟨g1, g2, v2, h1, h2, h3⟩ hk2, hk2.mono fun _ _ e => e.elim⟩
theorem p2_reg (h : PT w0 C w b1 b2 size B sl1 ns1 sl ns) (hK : TbK size B sl ns) (hB : B ≤ 2305843009213693952) (hs : s.size ≤ maxLen) (p : Int) (hp2 : p ≤ 9223372036854775807) : Calls Try.prog 31 #[.pointer (some ⟨b2, 0, none⟩), .string s, .int .i64 p] w
    (fun e w' => ∃ u, e = .returned u ∧ XCh w' u (errL ⟨#[114, 101, 103, 105, 115, 116, 101, 114]⟩ (s.size : Nat) (nameKind sl ns s p)) ∧ PT w0 C w' b1 b2 size B sl1 ns1 sl (regNs sl ns s p) ∧ Kp (fun q => errL ⟨#[114, 101, 103, 105, 115, 116, 101, 114]⟩ (s.size : Nat) (nameKind sl ns s p) = [] ∧ ¬ C q) w w') := by
  have hC := h.ltC
  obtain ⟨g1, g2, v2, h1, h2, h3⟩ := h
  unfold regNs
  by_cases hk : nameKind sl ns s p = 0
  · rw [if_pos hk]
    have hp := nk_nat hk
    have := xtreg_ok h2 hK.ok hB hK.fit hK.s64 hK.ord hK.few s p.toNat (by omega) (by rw [hp]; exact hk)
    rw [hp] at this
    refine this.mono ?_
    rintro e w' ⟨rfl, v', h4, h5, h6⟩
    exact ⟨_, rfl, by unfold errL; rw [if_pos hk]; rfl, And.imp_right (kp_ok (by unfold errL; rw [if_pos hk])) <| pt_two h1 h3 hC h4 (h5.mono fun q _ e => e.elim .inl (fun e => .inr (.inr (.inr e)))) h6⟩
  · rw [if_neg hk]
    refine (xtreg_bad h2 hK.ok hB hK.fit hK.s64 hK.ord hK.few s hs p hp2 hk).mono ?_
    rintro e w' hx
    obtain ⟨u, rfl, hu, hk2⟩ := hx.errL hk
    exact ⟨u, rfl, hu, PT.same ⟨g1, g2, v2, h1, h2, h3⟩ hk2, hk2.mono fun _ _ e => e.elim⟩
theorem p1_unreg (h : PT w0 C w b1 b2 size B sl ns sl2 ns2) (hs : s.size ≤ maxLen) : Calls Try.prog 20 #[.pointer (some ⟨b1, 0, none⟩), .string s] w
    (fun e w' => ∃ u, e = .returned u ∧ Chain w' u (whereErr ns s) ∧ PT w0 C w' b1 b2 size B sl (unregNs ns s) sl2 ns2 ∧ Kp (fun q => whereErr ns s = [] ∧ ¬ C q) w w') := by
  obtain ⟨g1, g2, v2, h1, h2, h3⟩ := h
  unfold unregNs whereErr
  cases hw : whose ns s with
  | some q =>
    refine (ts_unreg h1 hs hw).mono ?_
    rintro e w' ⟨rfl, h4, h5⟩
    exact ⟨_, rfl, rfl, And.imp_right (kp_ok rfl) <| pt_one h2 h3 h4 h5⟩
  | none =>
    refine (ts_unreg_bad h1 hs hw).mono ?_
    rintro e w' ⟨u, rfl, hu, hk2⟩
    exact ⟨u, rfl, hu.out, PT.same ⟨g1, g2, v2, h1, h2, h3⟩ hk2, hk2.mono fun _ _ e => e.elim⟩
theorem p2_unreg (h : PT w0 C w b1 b2 size B sl1 ns1 sl ns) (hK : TbK size B sl ns) (hs : s.size ≤ maxLen) : Calls Try.prog 32 #[.pointer (some ⟨b2, 0, none⟩), .string s] w
    (fun e w' => ∃ u, e = .returned u ∧ XCh w' u (whereErr ns s) ∧ PT w0 C w' b1 b2 size B sl1 ns1 sl (unregNs ns s) ∧ Kp (fun q => whereErr ns s = [] ∧ ¬ C q) w w') := by
  have hC := h.ltC
  obtain ⟨g1, g2, v2, h1, h2, h3⟩ := h
  unfold unregNs whereErr
  cases hw : whose ns s with
  | some q =>
    refine (xtunreg_ok h2 hK.ord hK.few hw).mono ?_
    rintro e w' ⟨rfl, v', h4, h5, h6⟩
    exact ⟨_, rfl, rfl, And.imp_right (kp_ok rfl) <| pt_two h1 h3 hC h4 (h5.mono fun q _ e => e.elim .inl (fun e => .inr (.inr (.inr e)))) h6⟩
  | none =>
    refine (xtunreg_bad h2 hK.few hs hw).mono ?_
    rintro e w' ⟨u, rfl, hu, hk2⟩
    exact ⟨u, rfl, hu, PT.same ⟨g1, g2, v2, h1, h2, h3⟩ hk2, hk2.mono fun _ _ e => e.elim⟩
theorem p1_where (h : PT w0 C w b1 b2 size B sl ns sl2 ns2) (hs : s.size ≤ maxLen) : Calls Try.prog 21 #[.pointer (some ⟨b1, 0, none⟩), .string s] w
    (fun e w' => ∃ u, e = .returned (.tuple #[.int .i64 (whereN ns s), u]) ∧ Chain w' u (whereErr ns s) ∧ Kp (fun _ => False) w w') := by
  obtain ⟨g1, g2, v2, h1, h2, h3⟩ := h
  unfold whereN whereErr
  cases hw : whose ns s with
  | some q =>
    refine (ts_whereis h1 hs hw).mono ?_
    rintro e w' ⟨rfl, rfl⟩
    exact ⟨_, rfl, rfl, Kp.refl _ _⟩
  | none =>
    refine (ts_whereis_bad h1 hs hw).mono ?_
    rintro e w' ⟨u, rfl, hu, hk2⟩
    exact ⟨u, rfl, hu.out, hk2⟩
theorem p2_where (h : PT w0 C w b1 b2 size B sl1 ns1 sl ns) (hK : TbK size B sl ns) (hs : s.size ≤ maxLen) : Calls Try.prog 33 #[.pointer (some ⟨b2, 0, none⟩), .string s] w
    (fun e w' => ∃ u, e = .returned (.tuple #[.int .i64 (whereN ns s), u]) ∧ XCh w' u (whereErr ns s) ∧ Kp (fun _ => False) w w') := by
  obtain ⟨g1, g2, v2, h1, h2, h3⟩ := h
  unfold whereN whereErr
  refine (xtwhere_any h2 hK.ord hK.few s hs).mono ?_
  rintro e w' (⟨q, hw, rfl, rfl⟩ | ⟨hw, x, hx, rfl, hk⟩)
  · rw [hw]
    exact ⟨_, rfl, rfl, Kp.refl _ _⟩
  · rw [hw]
    exact ⟨_, rfl, hx, hk⟩
theorem p1_all (h : PT w0 C w b1 b2 size B sl ns sl2 ns2) : Calls Try.prog 23 #[.pointer (some ⟨b1, 0, none⟩)] w (AllTo sl w) := by
  obtain ⟨g1, g2, v2, h1, -⟩ := h
  exact ts_all h1
theorem p2_all (h : PT w0 C w b1 b2 size B sl1 ns1 sl ns) (hK : TbK size B sl ns) (hB : B ≤ 2305843009213693952) : Calls Try.prog 34 #[.pointer (some ⟨b2, 0, none⟩)] w (AllTo sl w) := by
  obtain ⟨g1, g2, v2, h1, h2, -⟩ := h
  exact xtall_any h2 hK.ok hB hK.fit hK.s64
theorem p1_names (h : PT w0 C w b1 b2 size B sl ns sl2 ns2) : Calls Try.prog 18 #[.pointer (some ⟨b1, 0, none⟩)] w (SortedTo ns w) := by
  obtain ⟨g1, g2, v2, h1, -⟩ := h
  exact ts_names h1
theorem p2_names (h : PT w0 C w b1 b2 size B sl1 ns1 sl ns) (hK : TbK size B sl ns) : Calls Try.prog 35 #[.pointer (some ⟨b2, 0, none⟩)] w (SortedTo ns w) := by
  obtain ⟨g1, g2, v2, h1, h2, -⟩ := h
  exact xtnames_any h2 hK.few
end
/-- texts that can be read are compared -/
theorem sameTexts_any {w : World} {s1 s2 : Value} {l : List ByteArray} (h1 : Sw w s1 l) (h2 : Sw w s2 l) (hl : l.length ≤ 4096) :
    Calls Try.prog 28 #[s1, s2] w fun e w' => e = .returned (.bool true) ∧ ∃ k, w' = w.drewN k := by
  obtain ⟨p1, c1, hf1⟩ := h1.form
  obtain ⟨p2, c2, hf2⟩ := h2.form
  have hm : l.length ≤ 9223372036854775807 := by omega
  have H1 := Lib.hid (And.intro h1 hf1)
  have H2 := Lib.hid (And.intro h2 hf2)
  subst hf1 hf2
  clear h1 h2
  go_enter Try.func28, Try.ntmps28
  go_wp2_with fail
  go_loopg [5] l.length (fun gk i wr => ∃ (j k : Nat), j ≤ l.length ∧ gk = l.length - j ∧ i = .int .i64 j ∧ wr = w.drewN k)
  case atStart => exact ⟨0, 0, by omega, rfl, rfl, rfl⟩
  case round =>
    obtain ⟨j, k, hj, rfl, rfl, rfl⟩ := hrel
    by_cases hlt : j < l.length
    · obtain ⟨a, ha⟩ : ∃ a, l[j]? = some a := ⟨_, List.getElem?_eq_getElem hlt⟩
      obtain ⟨ga, ca, e1, -, -, a1⟩ := H1.out.1.get ha
      obtain ⟨gb, cb, e2, -, -, b1⟩ := H2.out.1.get ha
      obtain rfl : p1 = some ⟨ga, 0, none⟩ := by injection e1
      obtain rfl : p2 = some ⟨gb, 0, none⟩ := by injection e2
      clear ha e1 e2
      have hli : (j : Int) < l.length := by omega
      go_wp2_with fail
      go_region
      all_goals go_wp2_with fail
      all_goals go_roundg (l.length - (j + 1))
      case measure => omega
      case rel => exact ⟨j + 1, k + 1, by omega, rfl, by go_num, rfl⟩
    · obtain rfl : j = l.length := by omega
      go_wp2_with fail
      go_ret
      exact ⟨rfl, k, rfl⟩
end Go.Proofs.Ytdcmdidikengbaa
