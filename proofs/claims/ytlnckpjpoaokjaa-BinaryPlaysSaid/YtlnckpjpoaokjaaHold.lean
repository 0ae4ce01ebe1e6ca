/- binary: Keep, Drop, Bytes, Part, Count, Used. -/
import Derived.Test.YtlnckpjpoaokjaaPut2
namespace Go.Proofs.Ytlnckpjpoaokjaa
open Go.RowKit
section
variable {F : Nat → Prop} {w w3 : World} {b : Nat} {a : Bn} {ss fs : Value} {ps : List (Value × Value × Value)} {N : Nat}

def keepS : ByteArray := ⟨#[107, 101, 101, 112]⟩
def dropS : ByteArray := ⟨#[100, 114, 111, 112]⟩
def bytesS : ByteArray := ⟨#[98, 121, 116, 101, 115]⟩
def partS : ByteArray := ⟨#[112, 97, 114, 116]⟩
def countS : ByteArray := ⟨#[99, 111, 117, 110, 116]⟩

set_option maxHeartbeats 400000 in
theorem keep_bad (h : BRep F w b a ss fs ps) (hL : a.slots.length ≤ 4096) (n k : Int) (hnm : -9223372036854775808 ≤ n) (hnM : n ≤ 9223372036854775807) (hbad : FBad a n k) :
    Calls Try.prog 14 #[.pointer (some ⟨b, 0, none⟩), .int .i64 n] w (EBad w (fun v => v) [Lk.fault keepS n, Lk.kind k]) := by
  have hk := hbad.kind.1
  go_enter Try.func14, Try.ntmps14
  go_wp2_with (first | (go_at_call 48; refine (find_bad h hL n k hnm hnM hbad).mono ?_; rintro e w1 ⟨rfl, rfl⟩) | (go_at_call 39; refine (at_any _ _ _ _ _).mono ?_; rintro e w' ⟨rfl, rfl⟩))
  go_ret
  exact ebad1 w _ _ _ _ hk 0

set_option maxHeartbeats 400000 in
theorem drop_bad (h : BRep F w b a ss fs ps) (hL : a.slots.length ≤ 4096) (n k : Int) (hnm : -9223372036854775808 ≤ n) (hnM : n ≤ 9223372036854775807) (hbad : FBad a n k) :
    Calls Try.prog 16 #[.pointer (some ⟨b, 0, none⟩), .int .i64 n] w (EBad w (fun v => v) [Lk.fault dropS n, Lk.kind k]) := by
  have hk := hbad.kind.1
  go_enter Try.func16, Try.ntmps16
  go_wp2_with (first | (go_at_call 48; refine (find_bad h hL n k hnm hnM hbad).mono ?_; rintro e w1 ⟨rfl, rfl⟩) | (go_at_call 39; refine (at_any _ _ _ _ _).mono ?_; rintro e w' ⟨rfl, rfl⟩))
  go_ret
  exact ebad1 w _ _ _ _ hk 0

set_option maxHeartbeats 400000 in
theorem bytes_bad (h : BRep F w b a ss fs ps) (hL : a.slots.length ≤ 4096) (n k : Int) (hnm : -9223372036854775808 ≤ n) (hnM : n ≤ 9223372036854775807) (hbad : FBad a n k) :
    Calls Try.prog 18 #[.pointer (some ⟨b, 0, none⟩), .int .i64 n] w (EBad w (fun v => .tuple #[.slice none 0 0, v]) [Lk.fault bytesS n, Lk.kind k]) := by
  have hk := hbad.kind.1
  go_enter Try.func18, Try.ntmps18
  go_wp2_with (first | (go_at_call 48; refine (find_bad h hL n k hnm hnM hbad).mono ?_; rintro e w1 ⟨rfl, rfl⟩) | (go_at_call 39; refine (at_any _ _ _ _ _).mono ?_; rintro e w' ⟨rfl, rfl⟩))
  go_ret2
  exact ebad1 w (fun v => .tuple #[.slice none 0 0, v]) _ _ _ hk 0

set_option maxHeartbeats 400000 in
theorem part_bad (h : BRep F w b a ss fs ps) (hL : a.slots.length ≤ 4096) (n k : Int) (hnm : -9223372036854775808 ≤ n) (hnM : n ≤ 9223372036854775807) (hbad : FBad a n k) (x y : Int) :
    Calls Try.prog 20 #[.pointer (some ⟨b, 0, none⟩), .int .i64 n, .int .i64 x, .int .i64 y] w (EBad w (fun v => .tuple #[.slice none 0 0, v]) [Lk.fault partS n, Lk.kind k]) := by
  have hk := hbad.kind.1
  go_enter Try.func20, Try.ntmps20
  go_wp2_with (first | (go_at_call 48; refine (find_bad h hL n k hnm hnM hbad).mono ?_; rintro e w1 ⟨rfl, rfl⟩) | (go_at_call 39; refine (at_any _ _ _ _ _).mono ?_; rintro e w' ⟨rfl, rfl⟩))
  go_ret2
  exact ebad1 w (fun v => .tuple #[.slice none 0 0, v]) _ _ _ hk 0

set_option maxHeartbeats 400000 in
theorem count_bad (h : BRep F w b a ss fs ps) (hL : a.slots.length ≤ 4096) (n k : Int) (hnm : -9223372036854775808 ≤ n) (hnM : n ≤ 9223372036854775807) (hbad : FBad a n k) :
    Calls Try.prog 22 #[.pointer (some ⟨b, 0, none⟩), .int .i64 n] w (EBad w (fun v => .tuple #[.int .i64 0, v]) [Lk.fault countS n, Lk.kind k]) := by
  have hk := hbad.kind.1
  go_enter Try.func22, Try.ntmps22
  go_wp2_with (first | (go_at_call 48; refine (find_bad h hL n k hnm hnM hbad).mono ?_; rintro e w1 ⟨rfl, rfl⟩) | (go_at_call 39; refine (at_any _ _ _ _ _).mono ?_; rintro e w' ⟨rfl, rfl⟩))
  go_ret2
  exact ebad1 w (fun v => .tuple #[.int .i64 0, v]) _ _ _ hk 0

theorem used_any (h : BRep F w b a ss fs ps) :
    Calls Try.prog 23 #[.pointer (some ⟨b, 0, none⟩)] w fun e w' => e = .returned (.int .i64 a.used) ∧ w = w' := by
  obtain ⟨_, _, c2, _⟩ := h.cells
  go_enter Try.func23, Try.ntmps23
  go_wp2
  go_ret
  exact ⟨rfl, rfl⟩

set_option maxHeartbeats 400000 in
theorem count_ok (h : BRep F w b a ss fs ps) (hL : a.slots.length ≤ 4096) {n : Int} {i : Nat} {s : Sl} (hf : FOk a n i s) (hnM : n ≤ 9223372036854775807) :
    Calls Try.prog 22 #[.pointer (some ⟨b, 0, none⟩), .int .i64 n] w fun e w' => e = .returned (.tuple #[.int .i64 s.count, .nilIface]) ∧ w = w' := by
  obtain ⟨g, cap, v, hv, _, _, d0, d1, d2, _⟩ := h.slot hf.slot
  go_enter Try.func22, Try.ntmps22
  go_wp2_with (go_at_call 48; refine (find_ok h hf.slot hL hf.held n hf.lo hnM hf.at' hf.gen hv).mono ?_; rintro e w1 ⟨rfl, rfl⟩)
  go_ret2
  exact ⟨rfl, rfl⟩

set_option maxHeartbeats 400000 in
theorem bytes_ok (h : BRep F w b a ss fs ps) (hL : a.slots.length ≤ 4096) {n : Int} {i : Nat} {s : Sl} (hf : FOk a n i s) (hnM : n ≤ 9223372036854775807) :
    Calls Try.prog 18 #[.pointer (some ⟨b, 0, none⟩), .int .i64 n] w fun e w' => ∃ v, e = .returned (.tuple #[v, .nilIface]) ∧ BytesAt (Byt (Own w.heap.size w') w') w' s.bs v ∧ Kp (fun _ => False) w w' := by
  obtain ⟨g, cap, v, hv, _, hby, d0, d1, d2, _⟩ := h.slot hf.slot
  go_enter Try.func18, Try.ntmps18
  go_wp2_with fail
  refine (find_ok h hf.slot hL hf.held n hf.lo hnM hf.at' hf.gen hv).mono ?_
  rintro e w1 ⟨rfl, rfl⟩
  go_wp2_with fail
  refine (copied_any hby).mono ?_
  rintro e w1 ⟨v', rfl, h1, h2⟩
  obtain ⟨p', l', c', rfl⟩ := h1.form
  have H1 := Lib.hid (And.intro h1 h2)
  clear h1 h2
  go_wp2_with fail
  go_ret2
  exact ⟨_, rfl, H1.out⟩

theorem keep_slots {i : Nat} {s : Sl} (h : BRep F w b a ss fs ps) (hs : a.slots[i]? = some s) {g cap : Nat} (hv : ss = .slice (some ⟨g, 0, none⟩) a.slots.length cap) (c : Nat) :
    BGo F w b { a with slots := a.slots.set i ⟨s.bs, c, s.gen⟩ } (w.setCell ⟨g, i * 3 + 1, none⟩ (.int .i64 c)) := by
  obtain ⟨g0, c0, v, hv0, hp, hby, _⟩ := h.slot hs
  have h1 := h.setSlot (s' := ⟨s.bs, c, s.gen⟩) hs hv hp (i * 3 + 1) (.int .i64 c) v (t3_set ps i _ hp _).2.1 hby
  exact ⟨h1.2, F, New.same F w, _, _, _, h1.1⟩

set_option maxHeartbeats 400000 in
theorem keep_ok (h : BRep F w b a ss fs ps) (hL : a.slots.length ≤ 4096) {n : Int} {i : Nat} {s : Sl} (hf : FOk a n i s) (hnM : n ≤ 9223372036854775807) (hc : s.count ≤ 1000000000000000) :
    Calls Try.prog 14 #[.pointer (some ⟨b, 0, none⟩), .int .i64 n] w fun e w' => e = .returned .nilIface ∧ BGo F w b { a with slots := a.slots.set i ⟨s.bs, s.count + 1, s.gen⟩ } w' := by
  obtain ⟨g, cap, v, hv, _, hby, d0, d1, d2, fz, _⟩ := h.slot hf.slot
  have Hk := Lib.hid (keep_slots h hf.slot hv (s.count + 1))
  go_enter Try.func14, Try.ntmps14
  go_wp2_with (go_at_call 48; refine (find_ok h hf.slot hL hf.held n hf.lo hnM hf.at' hf.gen hv).mono ?_; rintro e w1 ⟨rfl, rfl⟩)
  go_ret
  exact ⟨rfl, Hk.out⟩
end
end Go.Proofs.Ytlnckpjpoaokjaa
