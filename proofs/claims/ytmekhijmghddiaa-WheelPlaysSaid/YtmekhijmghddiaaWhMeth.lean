/- A wheel's Left, What, Cancel, Now, Len. -/
import Derived.Test.YtmekhijmghddiaaWhStart
import Derived.Laws.Bits64b
namespace Go.Proofs.Ytmekhijmghddiaa
open Go.RowKit

theorem and_i64_31 (x : Int) : bits BinOp.and IntKind.i64 x 2147483647 = x % 2147483648 := by
  show IntKind.i64.wrap ((BitVec.ofInt 64 x &&& BitVec.ofInt 64 2147483647).toNat : Int) = _
  have h1 : (BitVec.ofInt 64 x).toNat = (x % 18446744073709551616).toNat := by rw [BitVec.toNat_ofInt]; rfl
  have h2 : (BitVec.ofInt 64 2147483647).toNat = 2 ^ 31 - 1 := by rw [BitVec.toNat_ofInt]; rfl
  rw [BitVec.toNat_and, h1, h2, Nat.and_two_pow_sub_one_eq_mod, IntWalk.i64_in _ (by omega)]
  omega

section
variable {F G : Nat → Prop} {w w' : World} {b mb most now fresh : Nat} {ch : Nat → List Tm} {ts : List Tm} {id : Int} {t : Tm}
set_option maxHeartbeats 1000000 in
theorem find_some (h : Wh w F b mb most now fresh ch ts) (op : ByteArray) (hid : (Lit.int .i64 id).wf = true) (ht : tmOf ts id = some t) :
    Calls Try.prog 35 #[.pointer (some ⟨b, 0, none⟩), .string op, .int .i64 id] w fun e w' => e = .returned (.tuple #[.pointer (some ⟨t.blk, 0, none⟩), .nilIface]) ∧ w = w' := by
  have c3 := h.chn.head (i := 3) (v := .map (some mb)) rfl
  have hl := h.mp.look id hid
  rw [ht, show tptr ((some t).map Tm.blk) = .pointer (some ⟨t.blk, 0, none⟩) from rfl, show (some t).isSome = true from rfl] at hl
  clear h ht
  go_enter Try.func35, Try.ntmps35
  go_wp2_with fail
  go_ret2
  exact ⟨rfl, rfl⟩
set_option maxHeartbeats 1000000 in
theorem find_none (h : Wh w F b mb most now fresh ch ts) (op : ByteArray) (hid : (Lit.int .i64 id).wf = true) (ht : tmOf ts id = none) :
    Calls Try.prog 35 #[.pointer (some ⟨b, 0, none⟩), .string op, .int .i64 id] w (EBad w (fun v => .tuple #[.pointer none, v]) [Lk.fault op (id % 2147483648), Lk.kind 3]) := by
  have c3 := h.chn.head (i := 3) (v := .map (some mb)) rfl
  have hl := h.mp.look id hid
  rw [ht, show tptr ((none : Option Tm).map Tm.blk) = .pointer none from rfl, show (none : Option Tm).isSome = false from rfl] at hl
  have HB := Lib.hid (ebad1 w (fun v => .tuple #[.pointer none, v]) op (id % 2147483648) 3 (by decide) 0)
  have hand := and_i64_31 id
  obtain ⟨R, hR⟩ : ∃ R, id % 2147483648 = R := ⟨_, rfl⟩
  rw [hR] at hand HB ⊢
  clear h ht hR
  go_enter Try.func35, Try.ntmps35
  go_wp2_with (go_at_call 27; refine (at_any _ _ _ _ _).mono ?_; rintro e w' ⟨rfl, rfl⟩)
  go_ret2
  exact HB.out
set_option maxHeartbeats 1000000 in
theorem left_none (h : Wh w F b mb most now fresh ch ts) (hid : (Lit.int .i64 id).wf = true) (ht : tmOf ts id = none) :
    Calls Try.prog 18 #[.pointer (some ⟨b, 0, none⟩), .int .i64 id] w (EBad w (fun v => .tuple #[.int .i64 0, v]) [Lk.fault ⟨#[108, 101, 102, 116]⟩ (id % 2147483648), Lk.kind 3]) := by
  have HF := Lib.hid (find_none h ⟨#[108, 101, 102, 116]⟩ hid ht)
  clear h ht
  go_enter Try.func18, Try.ntmps18
  go_wp2_with fail
  refine HF.out.mono ?_
  rintro e w1 ⟨v, rfl, hv, hk⟩
  obtain ⟨g, rfl⟩ := hv.out.form
  have H1 := Lib.hid (And.intro hv hk)
  clear hv hk
  go_wp2_with fail
  go_ret2
  exact ⟨_, rfl, H1.out⟩
set_option maxHeartbeats 1000000 in
theorem what_none (h : Wh w F b mb most now fresh ch ts) (hid : (Lit.int .i64 id).wf = true) (ht : tmOf ts id = none) :
    Calls Try.prog 20 #[.pointer (some ⟨b, 0, none⟩), .int .i64 id] w (EBad w (fun v => .tuple #[.int .i64 0, v]) [Lk.fault ⟨#[119, 104, 97, 116]⟩ (id % 2147483648), Lk.kind 3]) := by
  have HF := Lib.hid (find_none h ⟨#[119, 104, 97, 116]⟩ hid ht)
  clear h ht
  go_enter Try.func20, Try.ntmps20
  go_wp2_with fail
  refine HF.out.mono ?_
  rintro e w1 ⟨v, rfl, hv, hk⟩
  obtain ⟨g, rfl⟩ := hv.out.form
  have H1 := Lib.hid (And.intro hv hk)
  clear hv hk
  go_wp2_with fail
  go_ret2
  exact ⟨_, rfl, H1.out⟩
set_option maxHeartbeats 1000000 in
theorem cancel_none (h : Wh w F b mb most now fresh ch ts) (hid : (Lit.int .i64 id).wf = true) (ht : tmOf ts id = none) :
    Calls Try.prog 16 #[.pointer (some ⟨b, 0, none⟩), .int .i64 id] w (EBad w (fun v => .tuple #[.int .i64 0, v]) [Lk.fault ⟨#[99, 97, 110, 99, 101, 108]⟩ (id % 2147483648), Lk.kind 3]) := by
  have HF := Lib.hid (find_none h ⟨#[99, 97, 110, 99, 101, 108]⟩ hid ht)
  clear h ht
  go_enter Try.func16, Try.ntmps16
  go_wp2_with fail
  refine HF.out.mono ?_
  rintro e w1 ⟨v, rfl, hv, hk⟩
  obtain ⟨g, rfl⟩ := hv.out.form
  have H1 := Lib.hid (And.intro hv hk)
  clear hv hk
  go_wp2_with fail
  go_ret2
  exact ⟨_, rfl, H1.out⟩
set_option maxHeartbeats 1000000 in
theorem now_any (h : Wh w F b mb most now fresh ch ts) : Calls Try.prog 25 #[.pointer (some ⟨b, 0, none⟩)] w fun e w' => e = .returned (.int .i64 (now : Nat)) ∧ w = w' := by
  have c1 := h.chn.head (i := 1) (v := .int .i64 (now : Nat)) rfl
  clear h
  go_enter Try.func25, Try.ntmps25
  go_wp2_with fail
  go_ret
  exact ⟨rfl, rfl⟩
set_option maxHeartbeats 1000000 in
theorem len_any (h : Wh w F b mb most now fresh ch ts) : Calls Try.prog 26 #[.pointer (some ⟨b, 0, none⟩)] w fun e w' => e = .returned (.int .i64 (ts.length : Nat)) ∧ w = w' := by
  have c3 := h.chn.head (i := 3) (v := .map (some mb)) rfl
  have hl := h.mp.len
  clear h
  go_enter Try.func26, Try.ntmps26
  go_wp2_with fail
  go_ret
  exact ⟨rfl, rfl⟩
theorem Wh.node (h : Wh w F b mb most now fresh ch ts) (ht : t ∈ ts) : ∃ p q, Nd w t p q := by
  obtain ⟨s, hs, hin⟩ := (h.mem t).2 ht
  exact h.chn.node hs hin
set_option maxHeartbeats 1000000 in
theorem what_some (h : Wh w F b mb most now fresh ch ts) (hid : (Lit.int .i64 id).wf = true) (ht : tmOf ts id = some t) :
    Calls Try.prog 20 #[.pointer (some ⟨b, 0, none⟩), .int .i64 id] w fun e w' => e = .returned (.tuple #[.int .i64 t.wht, .nilIface]) ∧ w = w' := by
  have HF := Lib.hid (find_some h ⟨#[119, 104, 97, 116]⟩ hid ht)
  obtain ⟨p, q, hn⟩ := h.node (tmOf_mem ht).1
  obtain ⟨-, t1, -, -, -, -, -⟩ := hn.facts
  obtain ⟨g, hg⟩ : ∃ g, t.blk = g := ⟨_, rfl⟩
  rw [hg] at HF t1
  clear h ht hn hg
  go_enter Try.func20, Try.ntmps20
  go_wp2_with fail
  refine HF.out.mono ?_
  rintro e w1 ⟨rfl, rfl⟩
  go_wp2_with fail
  go_ret2
  exact ⟨rfl, rfl⟩
def LeftIs (d : Nat) (w : World) (e : Ending) (w' : World) : Prop := e = .returned (.tuple #[.int .i64 (d : Nat), .nilIface]) ∧ ∃ m, w' = w.drewN m
set_option maxHeartbeats 1000000 in
theorem left_some (h : Wh w F b mb most now fresh ch ts) (hid : (Lit.int .i64 id).wf = true) (ht : tmOf ts id = some t) :
    Calls Try.prog 18 #[.pointer (some ⟨b, 0, none⟩), .int .i64 id] w (LeftIs (t.due - now) w) := by
  have HF := Lib.hid (find_some h ⟨#[108, 101, 102, 116]⟩ hid ht)
  obtain ⟨p, q, hn⟩ := h.node (tmOf_mem ht).1
  obtain ⟨-, -, t2, -, -, -, -⟩ := hn.facts
  have c1 := h.chn.head (i := 1) (v := .int .i64 (now : Nat)) rfl
  have hle := h.le t (tmOf_mem ht).1
  have hdb := h.dueB t (tmOf_mem ht).1
  obtain ⟨g, hg⟩ : ∃ g, t.blk = g := ⟨_, rfl⟩
  obtain ⟨D, hD⟩ : ∃ g, t.due = g := ⟨_, rfl⟩
  obtain ⟨X, hX⟩ : ∃ X, D - now = X := ⟨_, rfl⟩
  rw [hg] at HF t2
  rw [hD] at t2 hle hdb ⊢
  rw [hX]
  have hsub : IntKind.i64.wrap ((D : Int) - (now : Int)) = (X : Int) := by rw [IntWalk.i64_in _ (by omega)]; omega
  clear h ht hn hg hD hX hle hdb
  go_enter Try.func18, Try.ntmps18
  go_wp2_with fail
  refine HF.out.mono ?_
  rintro e w1 ⟨rfl, rfl⟩
  go_wp2_with fail
  go_quiet (fail)
  go_wp2_with fail
  go_ret2
  exact ⟨by first | rfl | (rw [hsub]), _, rfl⟩
end
end Go.Proofs.Ytmekhijmghddiaa
