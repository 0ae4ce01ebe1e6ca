/- A table beside the caller's own blocks; the document's example. -/
import Derived.Test.YtdcmdidikengbaaTbReg
namespace Go.Proofs.Ytdcmdidikengbaa
open Go.RowKit
set_option linter.unusedVariables false

/-- a table, newer than w0; C: blocks of the caller's -/
def TS (w0 : World) (C : Nat → Prop) (w : World) (b size B : Nat) (sl : List Sg) (ns : List Nm) : Prop :=
  ∃ mb v, Tb w b mb v size B sl ns ∧ (∀ q, (q = b ∨ q = mb ∨ v.ownBlock = some q) → w0.heap.size ≤ q ∧ ¬ C q) ∧ (∀ q, C q → q < w.heap.size) ∧ Kp (fun _ => False) w0 w

section
variable {C C' D F : Nat → Prop} {w0 w w' : World} {b mb size B : Nat} {v : Value} {sl : List Sg} {ns : List Nm} {p : Int} {s : ByteArray}
theorem TS.tb (h : TS w0 C w b size B sl ns) : ∃ mb v, Tb w b mb v size B sl ns := by obtain ⟨mb, v, h1, -⟩ := h; exact ⟨mb, v, h1⟩
theorem TS.ok (h : TS w0 C w b size B sl ns) : SlOk B sl := by obtain ⟨mb, v, h1, -⟩ := h; exact h1.ok
theorem TS.fit (h : TS w0 C w b size B sl ns) : sl.length ≤ size := by obtain ⟨mb, v, h1, -⟩ := h; exact h1.fit
theorem TS.few (h : TS w0 C w b size B sl ns) : ns.length ≤ 64 := by obtain ⟨mb, v, h1, -⟩ := h; exact h1.few
theorem TS.live (h : TS w0 C w b size B sl ns) : ∀ n ∈ ns, kindAt sl (n.pid : Nat) = 0 := by obtain ⟨mb, v, h1, -⟩ := h; exact h1.live
theorem TS.ord (h : TS w0 C w b size B sl ns) : ns.Pairwise NmLt := by obtain ⟨mb, v, h1, -⟩ := h; exact h1.mp.ord
theorem TS.lens (h : TS w0 C w b size B sl ns) : ∀ n ∈ ns, 1 ≤ n.txt.size ∧ n.txt.size ≤ 255 := by obtain ⟨mb, v, h1, -⟩ := h; exact h1.lens
theorem TS.kp0 (h : TS w0 C w b size B sl ns) : Kp (fun _ => False) w0 w := by obtain ⟨mb, v, -, -, -, h1⟩ := h; exact h1
theorem TS.le (h : TS w0 C w b size B sl ns) {B' : Nat} (hB : B ≤ B') : TS w0 C w b size B' sl ns := by
  obtain ⟨mb, v, h1, h2⟩ := h
  exact ⟨mb, v, ⟨h1.main, h1.row, h1.mp, ⟨h1.ok.at_, fun s hs => Nat.le_trans (h1.ok.le s hs) hB⟩, h1.fit, h1.size1, h1.size2, h1.few, h1.lens, h1.live⟩, h2⟩
/-- other blocks are the caller's: those that were, and new ones -/
theorem TS.put (h : TS w0 C w b size B sl ns) (hk : Kp (fun _ => False) w w') (hC : ∀ q, C' q → C q ∨ (w.heap.size ≤ q ∧ q < w'.heap.size)) : TS w0 C' w' b size B sl ns := by
  obtain ⟨mb, v, h1, h2, h3, h4⟩ := h
  have hz := hk.size
  refine ⟨mb, v, h1.same hk, fun q hq => ⟨(h2 q hq).1, fun e => ?_⟩, fun q hq => ?_, h4.trans' hk⟩
  · rcases hC q e with e2 | e2
    · exact (h2 q hq).2 e2
    · rcases hq with rfl | rfl | hq
      · have := h1.ltb; omega
      · have := h1.mp.lt; omega
      · have := h1.ltv q hq; omega
  · rcases hC q hq with e | e
    · have := h3 q e; omega
    · exact e.2
theorem TS.same (h : TS w0 C w b size B sl ns) (hk : Kp (fun _ => False) w w') : TS w0 C w' b size B sl ns := h.put hk (fun _ e => .inl e)
/-- the caller turns blocks of its own, and makes new ones -/
theorem TS.turn (h : TS w0 C w b size B sl ns) (hk : Kp D w w') (hD : ∀ q, D q → C q ∧ w0.heap.size ≤ q) (hC : ∀ q, C' q → C q ∨ (w.heap.size ≤ q ∧ q < w'.heap.size)) : TS w0 C' w' b size B sl ns := by
  obtain ⟨mb, v, h1, h2, h3, h4⟩ := h
  have hz := hk.size
  have hn : ∀ q, (q = b ∨ q = mb ∨ v.ownBlock = some q) → ¬ D q := fun q hq e => (h2 q hq).2 (hD q e).1
  refine ⟨mb, v, h1.kp hk (hn b (.inl rfl)) (hn mb (.inr (.inl rfl))) (fun g hg => hn g (.inr (.inr hg))), fun q hq => ⟨(h2 q hq).1, fun e => ?_⟩, fun q hq => ?_, h4.trans (hk.mono fun q hq e => .inr ⟨(hD q e).2, hq⟩)⟩
  · rcases hC q e with e2 | e2
    · exact (h2 q hq).2 e2
    · rcases hq with rfl | rfl | hq
      · have := h1.ltb; omega
      · have := h1.mp.lt; omega
      · have := h1.ltv q hq; omega
  · rcases hC q hq with e | e
    · have := h3 q e; omega
    · exact e.2
/-- the table is turned -/
theorem ts_turn {v' : Value} {B' : Nat} {sl' : List Sg} {ns' : List Nm} (h : Tb w b mb v size B sl ns) (h2 : ∀ q, (q = b ∨ q = mb ∨ v.ownBlock = some q) → w0.heap.size ≤ q ∧ ¬ C q) (h3 : ∀ q, C q → q < w.heap.size) (h4 : Kp (fun _ => False) w0 w)
    (h' : Tb w' b mb v' size B' sl' ns') (hv : ∀ g, v'.ownBlock = some g → v.ownBlock = some g ∨ w.heap.size ≤ g) (hk : Kp (fun q => q = b ∨ q = mb ∨ v.ownBlock = some q) w w') : TS w0 C w' b size B' sl' ns' ∧ Kp (fun q => ¬ C q) w w' := by
  have hz := hk.size
  have hz0 := h4.size
  refine ⟨⟨mb, v', h', fun q hq => ?_, fun q hq => Nat.lt_of_lt_of_le (h3 q hq) hz, h4.trans (hk.mono fun q hq e => .inr ⟨(h2 q e).1, hq⟩)⟩, hk.mono fun q _ e => (h2 q e).2⟩
  rcases hq with rfl | rfl | hq
  · exact h2 _ (.inl rfl)
  · exact h2 _ (.inr (.inl rfl))
  · rcases hv q hq with e | e
    · exact h2 q (.inr (.inr e))
    · exact ⟨by omega, fun e2 => by have := h3 q e2; omega⟩

theorem ts_new (w : World) (m : Nat) (h1 : 1 ≤ m) (h2 : m ≤ 64) (hC : ∀ q, C q → q < w.heap.size) :
    Calls Try.prog 9 #[.int .i64 (m : Nat)] w (fun e w' => ∃ b, e = .returned (.tuple #[.pointer (some ⟨b, 0, none⟩), .nilIface]) ∧ TS w C w' b m 0 [] [] ∧ Kp (fun _ => False) w w') := by
  refine (tnew_ok w m h1 h2).mono ?_
  rintro e w' ⟨rfl, h, hk, hz⟩
  refine ⟨_, rfl, ⟨_, _, h, fun q hq => ?_, fun q hq => by have := hC q hq; omega, hk⟩, hk⟩
  rcases hq with rfl | rfl | hq
  · exact ⟨by omega, fun e => by have := hC _ e; omega⟩
  · exact ⟨by omega, fun e => by have := hC _ e; omega⟩
  · cases hq
theorem ts_live (h : TS w0 C w b size B sl ns) (p : Int) : Calls Try.prog 12 #[.pointer (some ⟨b, 0, none⟩), .int .i64 p] w fun e w' => e = .returned (.bool (decide (kindAt sl p = 0))) ∧ w = w' := by
  obtain ⟨mb, v, h1, -⟩ := h
  exact tlive_any h1 p
theorem ts_slot (h : TS w0 C w b size B sl ns) (p : Int) (hk : kindAt sl p = 0) : Calls Try.prog 15 #[.pointer (some ⟨b, 0, none⟩), .int .i64 p] w fun e w' => e = .returned (.tuple #[.int .i64 (slotAt p), .nilIface]) ∧ w = w' := by
  obtain ⟨mb, v, h1, -⟩ := h
  exact tslot_ok h1 p hk
theorem ts_slot_bad (h : TS w0 C w b size B sl ns) (p : Int) (hk : kindAt sl p ≠ 0) : Calls Try.prog 15 #[.pointer (some ⟨b, 0, none⟩), .int .i64 p] w
    (EBad w (fun v => .tuple #[.int .i64 (-1), v]) [Lk.fault ⟨#[115, 108, 111, 116]⟩ (slotAt p), Lk.kind (kindAt sl p)]) := by
  obtain ⟨mb, v, h1, -⟩ := h
  exact tslot_bad h1 p hk
theorem ts_add (h : TS w0 C w b size B sl ns) (hf : freeAt sl < size) (hB : B + 64 ≤ 2305843009213693952) :
    Calls Try.prog 11 #[.pointer (some ⟨b, 0, none⟩)] w (fun e w' => e = .returned (.tuple #[.int .i64 (addPid sl : Nat), .nilIface]) ∧ TS w0 C w' b size (B + 64) (addTo sl) ns ∧ Kp (fun q => ¬ C q) w w') := by
  obtain ⟨mb, v, h1, h2, h3, h4⟩ := h
  refine (add_ok h1 hf hB).mono ?_
  rintro e w' ⟨rfl, v', h5, h6, h7⟩
  exact ⟨rfl, ts_turn h1 h2 h3 h4 h5 h7 (h6.mono fun q _ e => e.elim .inl (fun e => .inr (.inr e)))⟩
theorem ts_add_full (h : TS w0 C w b size B sl ns) (hf : freeAt sl = size) :
    Calls Try.prog 11 #[.pointer (some ⟨b, 0, none⟩)] w (EBad w (fun v => .tuple #[.int .i64 (-1), v]) [Lk.fault ⟨#[97, 100, 100]⟩ (size : Nat), Lk.kind 2]) := by
  obtain ⟨mb, v, h1, -⟩ := h
  exact add_full h1 hf
/-- what Drop tells is a new row of the caller's -/
theorem ts_drop (h : TS w0 C w b size B sl ns) (p : Nat) (hk : kindAt sl (p : Nat) = 0) : Calls Try.prog 14 #[.pointer (some ⟨b, 0, none⟩), .int .i64 (p : Nat)] w
    (fun e w' => ∃ u, e = .returned (.tuple #[u, .nilIface]) ∧ Sw w' u (txts (ofPid ns p)) ∧ (∀ g, u.ownBlock = some g → w.heap.size ≤ g) ∧ TS w0 C w' b size B (dropAt sl (p % 64)) (without ns p) ∧ Kp (fun q => ¬ C q) w w') := by
  obtain ⟨mb, v, h1, h2, h3, h4⟩ := h
  refine (drop_ok h1 p hk).mono ?_
  rintro e w' ⟨u, rfl, h5, h6, h7, h8⟩
  exact ⟨u, rfl, h5, h6, ts_turn h1 h2 h3 h4 h7 (fun g hg => .inl hg) (h8.mono fun q _ e => e.elim (fun e => .inr (.inl e)) (fun e => .inr (.inr e)))⟩
theorem ts_drop_bad (h : TS w0 C w b size B sl ns) (p : Int) (hk : kindAt sl p ≠ 0) : Calls Try.prog 14 #[.pointer (some ⟨b, 0, none⟩), .int .i64 p] w
    (EBad w (fun v => .tuple #[.slice none 0 0, v]) [Lk.fault ⟨#[100, 114, 111, 112]⟩ (slotAt p), Lk.kind (kindAt sl p)]) := by
  obtain ⟨mb, v, h1, -⟩ := h
  exact drop_bad h1 p hk
theorem ts_all (h : TS w0 C w b size B sl ns) : Calls Try.prog 23 #[.pointer (some ⟨b, 0, none⟩)] w (AllTo sl w) := by
  obtain ⟨mb, v, h1, -⟩ := h
  exact all_any h1
theorem ts_names (h : TS w0 C w b size B sl ns) : Calls Try.prog 18 #[.pointer (some ⟨b, 0, none⟩)] w (SortedTo ns w) := by
  obtain ⟨mb, v, h1, -⟩ := h
  exact names_any h1
theorem ts_reg (h : TS w0 C w b size B sl ns) (s : ByteArray) (p : Nat) (hk : nameKind sl ns s (p : Nat) = 0) : Calls Try.prog 17 #[.pointer (some ⟨b, 0, none⟩), .string s, .int .i64 (p : Nat)] w
    (fun e w' => e = .returned .nilIface ∧ TS w0 C w' b size B sl (putNm ns ⟨s, p⟩) ∧ Kp (fun q => ¬ C q) w w') := by
  obtain ⟨mb, v, h1, h2, h3, h4⟩ := h
  refine (register_ok h1 s p hk).mono ?_
  rintro e w' ⟨rfl, h5, h6⟩
  exact ⟨rfl, ts_turn h1 h2 h3 h4 h5 (fun g hg => .inl hg) (h6.mono fun q _ e => .inr (.inl e))⟩
theorem ts_reg_bad (h : TS w0 C w b size B sl ns) (s : ByteArray) (hs : s.size ≤ maxLen) (p : Int) (hk : nameKind sl ns s p ≠ 0) : Calls Try.prog 17 #[.pointer (some ⟨b, 0, none⟩), .string s, .int .i64 p] w
    (EBad w (fun v => v) [Lk.fault ⟨#[114, 101, 103, 105, 115, 116, 101, 114]⟩ (s.size : Nat), Lk.kind (nameKind sl ns s p)]) := by
  obtain ⟨mb, v, h1, -⟩ := h
  exact register_bad h1 s hs p hk
theorem ts_unreg (h : TS w0 C w b size B sl ns) {q : Nat} (hs : s.size ≤ maxLen) (hw : whose ns s = some q) : Calls Try.prog 20 #[.pointer (some ⟨b, 0, none⟩), .string s] w
    (fun e w' => e = .returned .nilIface ∧ TS w0 C w' b size B sl (butFor ns s) ∧ Kp (fun q => ¬ C q) w w') := by
  obtain ⟨mb, v, h1, h2, h3, h4⟩ := h
  refine (unregister_ok h1 hs hw).mono ?_
  rintro e w' ⟨rfl, h5, h6⟩
  exact ⟨rfl, ts_turn h1 h2 h3 h4 h5 (fun g hg => .inl hg) (h6.mono fun q _ e => .inr (.inl e))⟩
theorem ts_unreg_bad (h : TS w0 C w b size B sl ns) (hs : s.size ≤ maxLen) (hw : whose ns s = none) : Calls Try.prog 20 #[.pointer (some ⟨b, 0, none⟩), .string s] w
    (EBad w (fun v => v) [Lk.fault ⟨#[110, 97, 109, 101]⟩ (s.size : Nat), Lk.kind 3]) := by
  obtain ⟨mb, v, h1, -⟩ := h
  exact unregister_bad h1 hs hw
theorem ts_whereis (h : TS w0 C w b size B sl ns) {q : Nat} (hs : s.size ≤ maxLen) (hw : whose ns s = some q) : Calls Try.prog 21 #[.pointer (some ⟨b, 0, none⟩), .string s] w
    fun e w' => e = .returned (.tuple #[.int .i64 (q : Nat), .nilIface]) ∧ w = w' := by
  obtain ⟨mb, v, h1, -⟩ := h
  exact whereis_ok h1 hs hw
theorem ts_whereis_bad (h : TS w0 C w b size B sl ns) (hs : s.size ≤ maxLen) (hw : whose ns s = none) : Calls Try.prog 21 #[.pointer (some ⟨b, 0, none⟩), .string s] w
    (EBad w (fun v => .tuple #[.int .i64 (-1), v]) [Lk.fault ⟨#[110, 97, 109, 101]⟩ (s.size : Nat), Lk.kind 3]) := by
  obtain ⟨mb, v, h1, -⟩ := h
  exact whereis_bad h1 hs hw

def noC : Nat → Prop := fun _ => False
set_option maxRecDepth 100000 in
set_option maxHeartbeats 4000000 in
/-- the document's example -/
theorem tbAwake_any (w : World) : Calls Try.prog 13 #[] w fun e w' => e = .returned (.bool true) ∧ Kp (fun _ => False) w w' := by
  have HN := Lib.hid (show Calls Try.prog 9 #[.int .i64 2] w _ from ts_new (C := noC) w 2 (by omega) (by omega) (fun _ e => e.elim))
  go_enter Try.func13, Try.ntmps13
  go_wp2_with fail
  refine HN.out.mono ?_
  rintro e w1 ⟨b, rfl, h1, -⟩
  have HA := Lib.hid (show Calls Try.prog 11 #[.pointer (some ⟨b, 0, none⟩)] w1 (fun e w' => e = .returned (.tuple #[.int .i64 0, .nilIface]) ∧ TS w noC w' b 2 64 [⟨0, true⟩] [] ∧ _) from ts_add h1 (by decide) (by omega))
  clear h1 HN
  go_wp2_with fail
  refine HA.out.mono ?_
  rintro e w2 ⟨rfl, h2, -⟩
  have HA2 := Lib.hid (show Calls Try.prog 11 #[.pointer (some ⟨b, 0, none⟩)] w2 (fun e w' => e = .returned (.tuple #[.int .i64 1, .nilIface]) ∧ TS w noC w' b 2 128 [⟨0, true⟩, ⟨1, true⟩] [] ∧ _) from ts_add h2 (by decide) (by omega))
  clear h2 HA
  go_wp2_with fail
  refine HA2.out.mono ?_
  rintro e w3 ⟨rfl, h3, -⟩
  have HF := Lib.hid (ts_add_full h3 (by decide))
  have H3 := Lib.hid h3
  clear h3 HA2
  go_wp2_with fail
  refine HF.out.mono ?_
  rintro e w4 ⟨u, rfl, hu, hk⟩
  obtain ⟨g, rfl⟩ := hu.out.form
  have HD := Lib.hid (show Calls Try.prog 14 #[.pointer (some ⟨b, 0, none⟩), .int .i64 0] w4 (fun e w' => ∃ u, e = .returned (.tuple #[u, .nilIface]) ∧ _ ∧ _ ∧ TS w noC w' b 2 128 [⟨0, false⟩, ⟨1, true⟩] [] ∧ _) from ts_drop (H3.out.same hk) 0 (by decide))
  clear hu hk HF H3
  go_wp2_with fail
  refine HD.out.mono ?_
  rintro e w5 ⟨u5, rfl, -, -, h5, -⟩
  have HA5 := Lib.hid (show Calls Try.prog 11 #[.pointer (some ⟨b, 0, none⟩)] w5 (fun e w' => e = .returned (.tuple #[.int .i64 64, .nilIface]) ∧ TS w noC w' b 2 192 [⟨64, true⟩, ⟨1, true⟩] [] ∧ _) from ts_add h5 (by decide) (by omega))
  clear h5 HD
  go_wp2_with fail
  refine HA5.out.mono ?_
  rintro e w6 ⟨rfl, h6, -⟩
  have HL := Lib.hid (show Calls Try.prog 12 #[.pointer (some ⟨b, 0, none⟩), .int .i64 0] w6 (fun e w' => e = .returned (.bool false) ∧ w6 = w') from ts_live h6 0)
  have H6 := Lib.hid h6.kp0
  clear h6 HA5
  go_wp2_with (go_at_call 12; refine HL.out.mono ?_; rintro e w' ⟨rfl, rfl⟩)
  go_ret
  exact ⟨rfl, H6.out⟩
end
end Go.Proofs.Ytdcmdidikengbaa
