/- binary: Part, Drop. -/
import Derived.Test.YtlnckpjpoaokjaaHold
namespace Go.Proofs.Ytlnckpjpoaokjaa
open Go.RowKit
section
variable {F : Nat → Prop} {w w3 : World} {b : Nat} {a : Bn} {ss fs : Value} {ps : List (Value × Value × Value)} {N : Nat}

/-- a part of a slice of bytes -/
theorem bytes_sub {F : Nat → Prop} {w : World} {l : List UInt8} {po : Option Addr} {cap x y : Nat} (h : BytesAt F w l (.slice po l.length cap)) (hxy : x + y ≤ l.length) (c : Nat) (hc : y ≤ c) {po' : Option Addr}
    (hpo : 0 < y → po' = po.map (fun a => a.add x)) : BytesAt F w ((l.drop x).take y) (.slice po' y c) := by
  obtain ⟨po2, cap2, e, h2, h3, h4⟩ := h
  injection e with e _ e2
  subst e e2
  have hl : ((l.drop x).take y).length = y := by simp; omega
  refine ⟨po', c, by rw [hl], by omega, by omega, fun i d hi => ?_⟩
  have hiy : i < y := by have := (List.getElem?_eq_some_iff.1 hi).1; omega
  rw [List.getElem?_take_of_lt hiy, List.getElem?_drop] at hi
  obtain ⟨b, off, rfl, hF, hc⟩ := h4 (x + i) d hi
  refine ⟨b, off + x, ?_, hF, by rw [Nat.add_assoc]; exact hc⟩
  rw [hpo (by omega)]
  simp [Addr.add]

set_option maxHeartbeats 400000 in
theorem part_ok (h : BRep F w b a ss fs ps) (hL : a.slots.length ≤ 4096) {n : Int} {i : Nat} {s : Sl} (hf : FOk a n i s) (hnM : n ≤ 9223372036854775807) (x y : Nat) (hxy : x + y ≤ s.bs.length) :
    Calls Try.prog 20 #[.pointer (some ⟨b, 0, none⟩), .int .i64 n, .int .i64 x, .int .i64 y] w fun e w' => ∃ v, e = .returned (.tuple #[v, .nilIface]) ∧ BytesAt (Byt (Own w.heap.size w') w') w' ((s.bs.drop x).take y) v ∧ Kp (fun _ => False) w w' := by
  obtain ⟨g, cap, v, hv, _, hby, d0, d1, d2, _⟩ := h.slot hf.slot
  obtain ⟨po, cb, rfl, hcb, hlb, _⟩ := id hby
  obtain ⟨len, hlen, hlen2, hlen3⟩ : ∃ len, s.bs.length = len ∧ len ≤ cb ∧ len ≤ 140737488351232 := ⟨_, rfl, hcb, hlb⟩
  rw [hlen] at d0 hxy
  have Hb := Lib.hid (And.intro hby hlen)
  clear hby hlen hcb hlb
  go_enter Try.func20, Try.ntmps20
  go_wp2_with fail
  refine (find_ok h hf.slot hL hf.held n hf.lo hnM hf.at' hf.gen hv).mono ?_
  rintro e w1 ⟨rfl, rfl⟩
  go_wp2_with fail
  all_goals
    have hb1 : BytesAt (Byt F w) w s.bs (.slice po s.bs.length cb) := Hb.out.1
    have hle := Hb.out.2
    refine (copied_any (bytes_sub (x := x) (y := y) hb1 (by omega) _ (by omega) (fun hy => by first | rfl | (exfalso; omega)))).mono ?_
    rintro e w1 ⟨v', rfl, h1, h2⟩
    obtain ⟨p', l', c', rfl⟩ := h1.form
    have H1 := Lib.hid (And.intro h1 h2)
    clear h1 h2 hb1 hle
    go_wp2_with fail
    go_ret2
    exact ⟨_, rfl, H1.out⟩

/-- no part: it is ahead of the beginning, or beyond the end -/
theorem part_out (h : BRep F w b a ss fs ps) (hL : a.slots.length ≤ 4096) {n : Int} {i : Nat} {s : Sl} (hf : FOk a n i s) (hnM : n ≤ 9223372036854775807) (x y : Int)
    (hx : -9223372036854775808 ≤ x ∧ x ≤ 9223372036854775807) (hy : -9223372036854775808 ≤ y ∧ y ≤ 9223372036854775807) (hxy : x < 0 ∨ y < 0 ∨ (s.bs.length : Int) - x < y) :
    Calls Try.prog 20 #[.pointer (some ⟨b, 0, none⟩), .int .i64 n, .int .i64 x, .int .i64 y] w (EBad w (fun v => .tuple #[.slice none 0 0, v]) [Lk.fault partS n, Lk.kind 12]) := by
  obtain ⟨g, cap, v, hv, _, hby, d0, d1, d2, _⟩ := h.slot hf.slot
  obtain ⟨po, cb, rfl, hcb, hlb, _⟩ := id hby
  obtain ⟨len, hlen, hlen2, hlen3⟩ : ∃ len, s.bs.length = len ∧ len ≤ cb ∧ len ≤ 140737488351232 := ⟨_, rfl, hcb, hlb⟩
  rw [hlen] at d0 hxy
  clear hby hlen hcb hlb
  by_cases hx0 : x < 0
  · have k1 : decide (x < 0) = true := by simpa using hx0
    clear hxy hx0
    go_enter Try.func20, Try.ntmps20
    go_wp2_with (first | (go_at_call 48; refine (find_ok h hf.slot hL hf.held n hf.lo hnM hf.at' hf.gen hv).mono ?_; rintro e w1 ⟨rfl, rfl⟩) | (go_at_call 39; refine (at_any _ _ _ _ _).mono ?_; rintro e w' ⟨rfl, rfl⟩))
    go_ret2
    exact ebad1 w (fun v => .tuple #[.slice none 0 0, v]) _ _ _ (by decide) 0
  · by_cases hy0 : y < 0
    · have k1 : decide (x < 0) = false := by simpa using hx0
      have k2 : decide (y < 0) = true := by simpa using hy0
      clear hxy hx0 hy0
      go_enter Try.func20, Try.ntmps20
      go_wp2_with (first | (go_at_call 48; refine (find_ok h hf.slot hL hf.held n hf.lo hnM hf.at' hf.gen hv).mono ?_; rintro e w1 ⟨rfl, rfl⟩) | (go_at_call 39; refine (at_any _ _ _ _ _).mono ?_; rintro e w' ⟨rfl, rfl⟩))
      go_ret2
      exact ebad1 w (fun v => .tuple #[.slice none 0 0, v]) _ _ _ (by decide) 0
    · have h3 : (len : Int) - x < y := by omega
      have k1 : decide (x < 0) = false := by simpa using hx0
      have k2 : decide (y < 0) = false := by simpa using hy0
      have hx1 : 0 ≤ x := by omega
      have hy1 : 0 ≤ y := by omega
      clear hxy hx0 hy0
      go_enter Try.func20, Try.ntmps20
      go_wp2_with (first | (go_at_call 48; refine (find_ok h hf.slot hL hf.held n hf.lo hnM hf.at' hf.gen hv).mono ?_; rintro e w1 ⟨rfl, rfl⟩) | (go_at_call 39; refine (at_any _ _ _ _ _).mono ?_; rintro e w' ⟨rfl, rfl⟩))
      go_ret2
      exact ebad1 w (fun v => .tuple #[.slice none 0 0, v]) _ _ _ (by decide) 0
end
end Go.Proofs.Ytlnckpjpoaokjaa
