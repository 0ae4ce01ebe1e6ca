/- binary: Keep, Drop, Bytes, Part, Count, Used. binary: Part, Drop. binary: Drop. -/
import Derived.Test.YtkcmfldcdokobaaGreatDoorM15
/- binary: Keep, Drop, Bytes, Part, Count, Used. -/
namespace Go.Proofs.YtkcmfldcdokobaaGreatDoor
open Go.RowKit
section
variable {F : Nat → Prop} {w w3 : World} {b : Nat} {a : Bn} {ss fs : Value} {ps : List (Value × Value × Value)} {N : Nat}

def keepS : ByteArray := ⟨#[107, 101, 101, 112]⟩
def dropS : ByteArray := ⟨#[100, 114, 111, 112]⟩
def bytesS : ByteArray := ⟨#[98, 121, 116, 101, 115]⟩
def partS : ByteArray := ⟨#[112, 97, 114, 116]⟩
def countS : ByteArray := ⟨#[99, 111, 117, 110, 116]⟩

set_option maxHeartbeats 400000 in
theorem keep_bad (h : BRep F w b a ss fs ps) (hL : a.slots.length ≤ 4096) (n k : Int) (hnm : -9223372036854775808 ≤ n) (hnM : n ≤ 9223372036854775807) (hbad : FBad a n k) :
    Calls Tryz.prog 59 #[.pointer (some ⟨b, 0, none⟩), .int .i64 n] w (EBad w (fun v => v) [Lk.fault keepS n, Lk.kind k]) := by
  have hk := hbad.kind.1
  go_enter Tryz.func59, Tryz.ntmps59
  go_wp2_with (first | (go_at_call 69; refine (find_bad h hL n k hnm hnM hbad).mono ?_; rintro e w1 ⟨rfl, rfl⟩) | (go_at_call 49; refine (at_any _ _ _ _ _).mono ?_; rintro e w' ⟨rfl, rfl⟩))
  go_ret
  exact ebad1 w _ _ _ _ hk 0

set_option maxHeartbeats 400000 in
theorem drop_bad (h : BRep F w b a ss fs ps) (hL : a.slots.length ≤ 4096) (n k : Int) (hnm : -9223372036854775808 ≤ n) (hnM : n ≤ 9223372036854775807) (hbad : FBad a n k) :
    Calls Tryz.prog 90 #[.pointer (some ⟨b, 0, none⟩), .int .i64 n] w (EBad w (fun v => v) [Lk.fault dropS n, Lk.kind k]) := by
  have hk := hbad.kind.1
  go_enter Tryz.func90, Tryz.ntmps90
  go_wp2_with (first | (go_at_call 69; refine (find_bad h hL n k hnm hnM hbad).mono ?_; rintro e w1 ⟨rfl, rfl⟩) | (go_at_call 49; refine (at_any _ _ _ _ _).mono ?_; rintro e w' ⟨rfl, rfl⟩))
  go_ret
  exact ebad1 w _ _ _ _ hk 0

set_option maxHeartbeats 400000 in
theorem part_bad (h : BRep F w b a ss fs ps) (hL : a.slots.length ≤ 4096) (n k : Int) (hnm : -9223372036854775808 ≤ n) (hnM : n ≤ 9223372036854775807) (hbad : FBad a n k) (x y : Int) :
    Calls Tryz.prog 94 #[.pointer (some ⟨b, 0, none⟩), .int .i64 n, .int .i64 x, .int .i64 y] w (EBad w (fun v => .tuple #[.slice none 0 0, v]) [Lk.fault partS n, Lk.kind k]) := by
  have hk := hbad.kind.1
  go_enter Tryz.func94, Tryz.ntmps94
  go_wp2_with (first | (go_at_call 69; refine (find_bad h hL n k hnm hnM hbad).mono ?_; rintro e w1 ⟨rfl, rfl⟩) | (go_at_call 49; refine (at_any _ _ _ _ _).mono ?_; rintro e w' ⟨rfl, rfl⟩))
  go_ret2
  exact ebad1 w (fun v => .tuple #[.slice none 0 0, v]) _ _ _ hk 0

set_option maxHeartbeats 400000 in
theorem count_bad (h : BRep F w b a ss fs ps) (hL : a.slots.length ≤ 4096) (n k : Int) (hnm : -9223372036854775808 ≤ n) (hnM : n ≤ 9223372036854775807) (hbad : FBad a n k) :
    Calls Tryz.prog 44 #[.pointer (some ⟨b, 0, none⟩), .int .i64 n] w (EBad w (fun v => .tuple #[.int .i64 0, v]) [Lk.fault countS n, Lk.kind k]) := by
  have hk := hbad.kind.1
  go_enter Tryz.func44, Tryz.ntmps44
  go_wp2_with (first | (go_at_call 69; refine (find_bad h hL n k hnm hnM hbad).mono ?_; rintro e w1 ⟨rfl, rfl⟩) | (go_at_call 49; refine (at_any _ _ _ _ _).mono ?_; rintro e w' ⟨rfl, rfl⟩))
  go_ret2
  exact ebad1 w (fun v => .tuple #[.int .i64 0, v]) _ _ _ hk 0

theorem used_any (h : BRep F w b a ss fs ps) :
    Calls Tryz.prog 25 #[.pointer (some ⟨b, 0, none⟩)] w fun e w' => e = .returned (.int .i64 a.used) ∧ w = w' := by
  obtain ⟨_, _, c2, _⟩ := h.cells
  go_enter Tryz.func25, Tryz.ntmps25
  go_wp2
  go_ret
  exact ⟨rfl, rfl⟩

set_option maxHeartbeats 400000 in
theorem count_ok (h : BRep F w b a ss fs ps) (hL : a.slots.length ≤ 4096) {n : Int} {i : Nat} {s : Sl} (hf : FOk a n i s) (hnM : n ≤ 9223372036854775807) :
    Calls Tryz.prog 44 #[.pointer (some ⟨b, 0, none⟩), .int .i64 n] w fun e w' => e = .returned (.tuple #[.int .i64 s.count, .nilIface]) ∧ w = w' := by
  obtain ⟨g, cap, v, hv, _, _, d0, d1, d2, _⟩ := h.slot hf.slot
  go_enter Tryz.func44, Tryz.ntmps44
  go_wp2_with (go_at_call 69; refine (find_ok h hf.slot hL hf.held n hf.lo hnM hf.at' hf.gen hv).mono ?_; rintro e w1 ⟨rfl, rfl⟩)
  go_ret2
  exact ⟨rfl, rfl⟩

theorem keep_slots {i : Nat} {s : Sl} (h : BRep F w b a ss fs ps) (hs : a.slots[i]? = some s) {g cap : Nat} (hv : ss = .slice (some ⟨g, 0, none⟩) a.slots.length cap) (c : Nat) :
    BGo F w b { a with slots := a.slots.set i ⟨s.bs, c, s.gen⟩ } (w.setCell ⟨g, i * 3 + 1, none⟩ (.int .i64 c)) := by
  obtain ⟨g0, c0, v, hv0, hp, hby, _⟩ := h.slot hs
  have h1 := h.setSlot (s' := ⟨s.bs, c, s.gen⟩) hs hv hp (i * 3 + 1) (.int .i64 c) v (t3_set ps i _ hp _).2.1 hby
  exact ⟨h1.2, F, New.same F w, _, _, _, h1.1⟩

set_option maxHeartbeats 400000 in
theorem keep_ok (h : BRep F w b a ss fs ps) (hL : a.slots.length ≤ 4096) {n : Int} {i : Nat} {s : Sl} (hf : FOk a n i s) (hnM : n ≤ 9223372036854775807) (hc : s.count ≤ 1000000000000000) :
    Calls Tryz.prog 59 #[.pointer (some ⟨b, 0, none⟩), .int .i64 n] w fun e w' => e = .returned .nilIface ∧ BGo F w b { a with slots := a.slots.set i ⟨s.bs, s.count + 1, s.gen⟩ } w' := by
  obtain ⟨g, cap, v, hv, _, hby, d0, d1, d2, fz, _⟩ := h.slot hf.slot
  have Hk := Lib.hid (keep_slots h hf.slot hv (s.count + 1))
  go_enter Tryz.func59, Tryz.ntmps59
  go_wp2_with (go_at_call 69; refine (find_ok h hf.slot hL hf.held n hf.lo hnM hf.at' hf.gen hv).mono ?_; rintro e w1 ⟨rfl, rfl⟩)
  go_ret
  exact ⟨rfl, Hk.out⟩
end
end Go.Proofs.YtkcmfldcdokobaaGreatDoor

/- binary: Part, Drop. -/
namespace Go.Proofs.YtkcmfldcdokobaaGreatDoor
open Go.RowKit
section
variable {F : Nat → Prop} {w w3 : World} {b : Nat} {a : Bn} {ss fs : Value} {ps : List (Value × Value × Value)} {N : Nat}

/-- a part of a slice of bytes -/
theorem bytes_sub {F : Nat → Prop} {w : World} {l : List UInt8} {po : Option Addr} {cap x y : Nat} (h : BytesAt F w l (.slice po l.length cap)) (hxy : x + y ≤ l.length) (c : Nat) (hc : y ≤ c) {po' : Option Addr}
    (hpo : 0 < y → po' = po.map (fun a => a.add x)) : BytesAt F w ((l.drop x).take y) (.slice po' y c) := by
  obtain ⟨po2, cap2, e, h2, h3, h4⟩ := h
  injection e with e _ e2
  subst e e2
  have hl : ((l.drop x).take y).length = y := by simp; omega
  refine ⟨po', c, by rw [hl], by omega, by omega, fun i d hi => ?_⟩
  have hiy : i < y := by have := (List.getElem?_eq_some_iff.1 hi).1; omega
  rw [List.getElem?_take_of_lt hiy, List.getElem?_drop] at hi
  obtain ⟨b, off, rfl, hF, hc⟩ := h4 (x + i) d hi
  refine ⟨b, off + x, ?_, hF, by rw [Nat.add_assoc]; exact hc⟩
  rw [hpo (by omega)]
  simp [Addr.add]

set_option maxHeartbeats 400000 in
theorem part_ok (h : BRep F w b a ss fs ps) (hL : a.slots.length ≤ 4096) {n : Int} {i : Nat} {s : Sl} (hf : FOk a n i s) (hnM : n ≤ 9223372036854775807) (x y : Nat) (hxy : x + y ≤ s.bs.length) :
    Calls Tryz.prog 94 #[.pointer (some ⟨b, 0, none⟩), .int .i64 n, .int .i64 x, .int .i64 y] w fun e w' => ∃ v, e = .returned (.tuple #[v, .nilIface]) ∧ BytesAt (Byt (Own w.heap.size w') w') w' ((s.bs.drop x).take y) v ∧ Kp (fun _ => False) w w' := by
  obtain ⟨g, cap, v, hv, _, hby, d0, d1, d2, _⟩ := h.slot hf.slot
  obtain ⟨po, cb, rfl, hcb, hlb, _⟩ := id hby
  obtain ⟨len, hlen, hlen2, hlen3⟩ : ∃ len, s.bs.length = len ∧ len ≤ cb ∧ len ≤ 140737488351232 := ⟨_, rfl, hcb, hlb⟩
  rw [hlen] at d0 hxy
  have Hb := Lib.hid (And.intro hby hlen)
  clear hby hlen hcb hlb
  go_enter Tryz.func94, Tryz.ntmps94
  go_wp2_with fail
  refine (find_ok h hf.slot hL hf.held n hf.lo hnM hf.at' hf.gen hv).mono ?_
  rintro e w1 ⟨rfl, rfl⟩
  go_wp2_with fail
  all_goals
    have hb1 : BytesAt (Byt F w) w s.bs (.slice po s.bs.length cb) := Hb.out.1
    have hle := Hb.out.2
    refine (copied_any (bytes_sub (x := x) (y := y) hb1 (by omega) _ (by omega) (fun hy => by first | rfl | (exfalso; omega)))).mono ?_
    rintro e w1 ⟨v', rfl, h1, h2⟩
    obtain ⟨p', l', c', rfl⟩ := h1.form
    have H1 := Lib.hid (And.intro h1 h2)
    clear h1 h2 hb1 hle
    go_wp2_with fail
    go_ret2
    exact ⟨_, rfl, H1.out⟩

/-- no part: it is ahead of the beginning, or beyond the end -/
theorem part_out (h : BRep F w b a ss fs ps) (hL : a.slots.length ≤ 4096) {n : Int} {i : Nat} {s : Sl} (hf : FOk a n i s) (hnM : n ≤ 9223372036854775807) (x y : Int)
    (hx : -9223372036854775808 ≤ x ∧ x ≤ 9223372036854775807) (hy : -9223372036854775808 ≤ y ∧ y ≤ 9223372036854775807) (hxy : x < 0 ∨ y < 0 ∨ (s.bs.length : Int) - x < y) :
    Calls Tryz.prog 94 #[.pointer (some ⟨b, 0, none⟩), .int .i64 n, .int .i64 x, .int .i64 y] w (EBad w (fun v => .tuple #[.slice none 0 0, v]) [Lk.fault partS n, Lk.kind 12]) := by
  obtain ⟨g, cap, v, hv, _, hby, d0, d1, d2, _⟩ := h.slot hf.slot
  obtain ⟨po, cb, rfl, hcb, hlb, _⟩ := id hby
  obtain ⟨len, hlen, hlen2, hlen3⟩ : ∃ len, s.bs.length = len ∧ len ≤ cb ∧ len ≤ 140737488351232 := ⟨_, rfl, hcb, hlb⟩
  rw [hlen] at d0 hxy
  clear hby hlen hcb hlb
  by_cases hx0 : x < 0
  · have k1 : decide (x < 0) = true := by simpa using hx0
    clear hxy hx0
    go_enter Tryz.func94, Tryz.ntmps94
    go_wp2_with (first | (go_at_call 69; refine (find_ok h hf.slot hL hf.held n hf.lo hnM hf.at' hf.gen hv).mono ?_; rintro e w1 ⟨rfl, rfl⟩) | (go_at_call 49; refine (at_any _ _ _ _ _).mono ?_; rintro e w' ⟨rfl, rfl⟩))
    go_ret2
    exact ebad1 w (fun v => .tuple #[.slice none 0 0, v]) _ _ _ (by decide) 0
  · by_cases hy0 : y < 0
    · have k1 : decide (x < 0) = false := by simpa using hx0
      have k2 : decide (y < 0) = true := by simpa using hy0
      clear hxy hx0 hy0
      go_enter Tryz.func94, Tryz.ntmps94
      go_wp2_with (first | (go_at_call 69; refine (find_ok h hf.slot hL hf.held n hf.lo hnM hf.at' hf.gen hv).mono ?_; rintro e w1 ⟨rfl, rfl⟩) | (go_at_call 49; refine (at_any _ _ _ _ _).mono ?_; rintro e w' ⟨rfl, rfl⟩))
      go_ret2
      exact ebad1 w (fun v => .tuple #[.slice none 0 0, v]) _ _ _ (by decide) 0
    · have h3 : (len : Int) - x < y := by omega
      have k1 : decide (x < 0) = false := by simpa using hx0
      have k2 : decide (y < 0) = false := by simpa using hy0
      have hx1 : 0 ≤ x := by omega
      have hy1 : 0 ≤ y := by omega
      clear hxy hx0 hy0
      go_enter Tryz.func94, Tryz.ntmps94
      go_wp2_with (first | (go_at_call 69; refine (find_ok h hf.slot hL hf.held n hf.lo hnM hf.at' hf.gen hv).mono ?_; rintro e w1 ⟨rfl, rfl⟩) | (go_at_call 49; refine (at_any _ _ _ _ _).mono ?_; rintro e w' ⟨rfl, rfl⟩))
      go_ret2
      exact ebad1 w (fun v => .tuple #[.slice none 0 0, v]) _ _ _ (by decide) 0
end
end Go.Proofs.YtkcmfldcdokobaaGreatDoor

/- binary: Drop. -/
namespace Go.Proofs.YtkcmfldcdokobaaGreatDoor
open Go.RowKit
section
variable {F : Nat → Prop} {w w3 : World} {b : Nat} {a : Bn} {ss fs : Value} {ps : List (Value × Value × Value)} {N : Nat}

/-- a slot more is free -/
theorem BRep.pushFree (h : BRep F w b a ss fs ps) {o : Obj} {g cap i : Nat}
    (hown : w3.ownsRow 0 3 1 (.slice (some ⟨g, 0, none⟩) (a.free.length + 1) cap) (a.free.length + 1) (nats a.free ++ [.int .i64 i]))
    (hg : (w.alloc o).grownBy w3 fs.ownBlock) (hat : fs.ownBlock = some g ∨ g = w.heap.size + 1) (hlt : g < w3.heap.size) :
    BGo F w b { a with free := a.free ++ [i] } (w3.setCell ⟨b, 4, none⟩ (.slice (some ⟨g, 0, none⟩) (a.free.length + 1) cap)) := by
  have hk3 : Kp (fun q => fs.ownBlock = some q) w w3 := ((Kp.refl _ w).alloc o).grown hg (fun q hq => .inl hq)
  have hkF : Kp F w w3 := hk3.mono fun q _ e => h.fF q e
  have hz := hk3.size
  have hbF : ¬ fs.ownBlock = some b := fun e => h.neF e rfl
  obtain ⟨capg, curg, _, hgg, _⟩ := row_blk hown (g := g) rfl
  have hb3 := (hk3.block b (h.lt b h.inF) hbF).trans h.hb
  have hgb : g ≠ b := blk_ne hgg hb3 (by decide)
  have hks : Kp (fun q => q = b) w3 (w3.setCell ⟨b, 4, none⟩ (.slice (some ⟨g, 0, none⟩) (a.free.length + 1) cap)) := (Kp.refl _ w3).setCell _ _ (.inl rfl)
  refine ⟨hkF.trans (hks.mono fun q _ e => .inl (e ▸ h.inF)), fun q => F q ∨ q = g, fun q hq => ?_, ss, .slice (some ⟨g, 0, none⟩) (a.free.length + 1) cap, ps, ?_⟩
  · rcases hq with hq | rfl
    · exact .inl hq
    · rcases hat with e | e
      · exact .inl (h.fF _ e)
      · exact .inr (by omega)
  · refine ⟨.inl h.inF, ?_, heap_set_here hb3 _, ?_, ?_, fun q hq => .inl (h.fS q hq), fun q hq => .inr (by simpa [Value.ownBlock] using hq.symm), ?_⟩
    · intro q hq
      rcases hq with hq | rfl
      · have := h.lt q hq; simp [World.setCell]; omega
      · simpa [World.setCell] using hlt
    · exact row_set (hk3.row h.rs (fun q hq e => h.neSF hq e rfl)) (fun e => h.neS e rfl) _
    · have := row_set hown (p := ⟨b, 4, none⟩) (fun e => hgb (by simpa [Value.ownBlock] using e)) (.slice (some ⟨g, 0, none⟩) (a.free.length + 1) cap)
      have e : nats (a.free ++ [i]) = nats a.free ++ [.int .i64 i] := by simp [nats]
      rw [e, List.length_append]
      exact this
    · intro i s hs
      obtain ⟨v, h1, h2⟩ := h.el i s hs
      refine ⟨v, h1, ?_⟩
      have h3 := byt_kp h2 hk3 (fun q _ e cs hc => by obtain ⟨_, _, _, e', _⟩ := row_blk h.rf e; exact blk_ne hc e' (by decide) rfl)
      exact byt_more (byt_kp h3 hks (fun q _ e cs hc => by subst e; exact blk_ne hc hb3 (by decide) rfl)) (fun q hq => .inl hq)

set_option maxHeartbeats 400000 in
theorem drop_more (h : BRep F w b a ss fs ps) (hL : a.slots.length ≤ 4096) {n : Int} {i c : Nat} {s : Sl} (hf : FOk a n i s) (hnM : n ≤ 9223372036854775807) (hc : s.count = c + 1) (hc0 : 0 < c) (hcM : c ≤ 1000000000000000) :
    Calls Tryz.prog 90 #[.pointer (some ⟨b, 0, none⟩), .int .i64 n] w fun e w' => e = .returned .nilIface ∧ BGo F w b { a with slots := a.slots.set i ⟨s.bs, c, s.gen⟩ } w' := by
  obtain ⟨g, cap, v, hv, _, hby, d0, d1, d2, fz, _⟩ := h.slot hf.slot
  have Hk := Lib.hid (keep_slots h hf.slot hv c)
  rw [hc] at d1
  have k1 : ((c : Int) == 0) = false := by simp; omega
  have d1' : w.cell? ⟨g, i * 3 + 1, none⟩ = some (.int .i64 ((c : Int) + 1)) := d1
  have Hc := Lib.hid hc
  clear hc d1
  go_enter Tryz.func90, Tryz.ntmps90
  go_wp2_with (go_at_call 69; refine (find_ok h hf.slot hL hf.held n hf.lo hnM hf.at' hf.gen hv).mono ?_; rintro e w1 ⟨rfl, rfl⟩)
  go_ret
  exact ⟨rfl, Hk.out⟩

/-- the slot i is freed: its four cells and the count of bytes -/
theorem free_slots {i : Nat} {s : Sl} (h : BRep F w b a ss fs ps) (hs : a.slots[i]? = some s) {g cap : Nat} (hv : ss = .slice (some ⟨g, 0, none⟩) a.slots.length cap) (u : Nat) :
    (∃ qs, BRep F ((((w.setCell ⟨g, i * 3 + 1, none⟩ (.int .i64 0)).setCell ⟨b, 2, none⟩ (.int .i64 u)).setCell ⟨g, i * 3, none⟩ (.slice none 0 0)).setCell ⟨g, i * 3 + 2, none⟩ (.int .i64 (s.gen + 1 : Nat))) b
      { a with used := u, slots := a.slots.set i ⟨[], 0, s.gen + 1⟩ } ss fs qs) ∧
      Kp F w ((((w.setCell ⟨g, i * 3 + 1, none⟩ (.int .i64 0)).setCell ⟨b, 2, none⟩ (.int .i64 u)).setCell ⟨g, i * 3, none⟩ (.slice none 0 0)).setCell ⟨g, i * 3 + 2, none⟩ (.int .i64 (s.gen + 1 : Nat))) := by
  obtain ⟨g0, c0, v, hv0, hp, hby, _⟩ := h.slot hs
  have hil := (List.getElem?_eq_some_iff.1 hs).1
  have hpl := (List.getElem?_eq_some_iff.1 hp).1
  have h1 := h.setSlot (s' := ⟨s.bs, 0, s.gen⟩) hs hv hp (i * 3 + 1) (.int .i64 0) v (t3_set ps i _ hp _).2.1 hby
  have h2 := h1.1.setUsed u
  have h3 := h2.1.setSlot (s := ⟨s.bs, 0, s.gen⟩) (s' := ⟨[], 0, s.gen⟩) (v := v) (by simp [hil]) hv (by simp [hpl]) (i * 3) (.slice none 0 0) (.slice none 0 0)
    ((t3_set (ps.set i (v, .int .i64 (0 : Nat), .int .i64 s.gen)) i (v, .int .i64 (0 : Nat), .int .i64 s.gen) (by simp [hpl]) (.slice none 0 0)).1) (bytesAt_nil _ _)
  have h4 := h3.1.setSlot (s := ⟨[], 0, s.gen⟩) (s' := ⟨[], 0, s.gen + 1⟩) (v := .slice none 0 0) (by simp [hil]) hv (by simp [hpl]) (i * 3 + 2) (.int .i64 (s.gen + 1 : Nat)) (.slice none 0 0)
    ((t3_set ((ps.set i (v, .int .i64 (0 : Nat), .int .i64 s.gen)).set i (.slice none 0 0, .int .i64 (0 : Nat), .int .i64 s.gen)) i (.slice none 0 0, .int .i64 (0 : Nat), .int .i64 s.gen) (by simp [hpl]) (.int .i64 (s.gen + 1 : Nat))).2.2) (bytesAt_nil _ _)
  have h5 := ((h1.2.trans' h2.2).trans' h3.2).trans' h4.2
  have h6 := h4.1
  simp only [List.set_set] at h6
  exact ⟨⟨_, h6⟩, h5⟩

set_option maxRecDepth 100000 in
set_option maxHeartbeats 2000000 in
theorem drop_last (h : BRep F w b a ss fs ps) (hL : a.slots.length ≤ 4096) (hfL : a.free.length ≤ 4096) {n : Int} {i : Nat} {s : Sl} (hf : FOk a n i s) (hnM : n ≤ 9223372036854775807) (hc : s.count = 1) (hg : s.gen ≤ 1000000000000000) (hu : s.bs.length ≤ a.used) (huM : a.used ≤ 1048576) :
    Calls Tryz.prog 90 #[.pointer (some ⟨b, 0, none⟩), .int .i64 n] w fun e w' => e = .returned .nilIface ∧
      BGo F w b { a with used := a.used - s.bs.length, slots := a.slots.set i ⟨[], 0, s.gen + 1⟩, free := a.free ++ [i] } w' := by
  obtain ⟨g, cap, v, hv, _, hby, d0, d1, d2, fz, hFg, hgb⟩ := h.slot hf.slot
  obtain ⟨e0, e1, e2, e3, e4, e5⟩ := h.cells
  obtain ⟨po, cb, rfl, hcb, hlb, _⟩ := id hby
  have hfr := free_slots h hf.slot hv (a.used - s.bs.length)
  obtain ⟨len, hlen, hlen2, hlen3⟩ : ∃ len, s.bs.length = len ∧ len ≤ a.used ∧ len ≤ 140737488351232 := ⟨_, rfl, hu, hlb⟩
  obtain ⟨U, hU, hU2⟩ : ∃ U, a.used = U ∧ U ≤ 1048576 := ⟨_, rfl, huM⟩
  obtain ⟨q, hq, hq2⟩ : ∃ q, s.gen = q ∧ q ≤ 1000000000000000 := ⟨_, rfl, hg⟩
  have hlo := hf.lo
  have hat := hf.at'
  rw [hc] at d1
  have d1' : w.cell? ⟨g, i * 3 + 1, none⟩ = some (.int .i64 1) := d1
  rw [hlen] at d0
  rw [hU] at e2 hlen2
  rw [hq] at d2
  rw [hlen, hU, hq] at hfr
  rw [show ((U - len : Nat) : Int) = (U : Int) - len by omega, show ((q + 1 : Nat) : Int) = (q : Int) + 1 by omega] at hfr
  have g1 : IntKind.i64.wrap ((U : Int) - len) = (U : Int) - len := IntWalk.i64_in _ (by omega)
  have Hf := Lib.hid (And.intro hlen (And.intro hU hq))
  have hbg : ¬ b = g := fun e => hgb e.symm
  have cA1 : (w.setCell ⟨g, i * 3 + 1, none⟩ (.int .i64 0)).cell? ⟨g, i * 3 + 1, none⟩ = some (.int .i64 0) := World.cell?_setCell_same _ _ _ d1'
  have cA2 : (w.setCell ⟨g, i * 3 + 1, none⟩ (.int .i64 0)).cell? ⟨b, 2, none⟩ = some (.int .i64 U) := by
    rw [World.cell?_setCell_other _ _ _ _ (fun e => hgb (congrArg Addr.block e))]; exact e2
  have cA0 : (w.setCell ⟨g, i * 3 + 1, none⟩ (.int .i64 0)).cell? ⟨g, i * 3, none⟩ = some (.slice po len cb) := by
    rw [World.cell?_setCell_other _ _ _ _ (fun e => by have e' := congrArg Addr.off e; simp only at e'; omega)]; exact d0
  have cA3 : (w.setCell ⟨g, i * 3 + 1, none⟩ (.int .i64 0)).cell? ⟨g, i * 3 + 2, none⟩ = some (.int .i64 q) := by
    rw [World.cell?_setCell_other _ _ _ _ (fun e => by have e' := congrArg Addr.off e; simp only at e'; omega)]; exact d2
  have cA4 : (w.setCell ⟨g, i * 3 + 1, none⟩ (.int .i64 0)).cell? ⟨b, 4, none⟩ = some fs := by
    rw [World.cell?_setCell_other _ _ _ _ (fun e => hgb (congrArg Addr.block e))]; exact e4
  have fA : ∀ x j, (w.setCell ⟨g, i * 3 + 1, none⟩ (.int .i64 0)).frozen? ⟨x, j, none⟩ = w.frozen? ⟨x, j, none⟩ := fun x j => World.frozen?_setCell _ _ _ _
  obtain ⟨wA, hwA⟩ : ∃ wA, w.setCell ⟨g, i * 3 + 1, none⟩ (.int .i64 0) = wA := ⟨_, rfl⟩
  rw [hwA] at cA1 cA2 cA0 cA3 cA4 fA
  have fAb : ∀ j, wA.frozen? ⟨b, j, none⟩ = false := fun j => (fA b j).trans (e5 j)
  have fAg : ∀ j, wA.frozen? ⟨g, j, none⟩ = false := fun j => (fA g j).trans (fz j)
  have cB0 : (wA.setCell ⟨b, 2, none⟩ (.int .i64 ((U : Int) - len))).cell? ⟨g, i * 3, none⟩ = some (.slice po len cb) := by
    rw [World.cell?_setCell_other _ _ _ _ (fun e => hbg (congrArg Addr.block e))]; exact cA0
  have cB3 : (wA.setCell ⟨b, 2, none⟩ (.int .i64 ((U : Int) - len))).cell? ⟨g, i * 3 + 2, none⟩ = some (.int .i64 q) := by
    rw [World.cell?_setCell_other _ _ _ _ (fun e => hbg (congrArg Addr.block e))]; exact cA3
  have cB4 : (wA.setCell ⟨b, 2, none⟩ (.int .i64 ((U : Int) - len))).cell? ⟨b, 4, none⟩ = some fs := by
    rw [World.cell?_setCell_other _ _ _ _ (fun e => by have e' := congrArg Addr.off e; simp only at e'; omega)]; exact cA4
  obtain ⟨wB, hwB⟩ : ∃ wB, wA.setCell ⟨b, 2, none⟩ (.int .i64 ((U : Int) - len)) = wB := ⟨_, rfl⟩
  have fBb : ∀ j, wB.frozen? ⟨b, j, none⟩ = false := fun j => by rw [← hwB, World.frozen?_setCell]; exact fAb j
  have fBg : ∀ j, wB.frozen? ⟨g, j, none⟩ = false := fun j => by rw [← hwB, World.frozen?_setCell]; exact fAg j
  rw [hwB] at cB0 cB3 cB4
  have cC3 : (wB.setCell ⟨g, i * 3, none⟩ (.slice none 0 0)).cell? ⟨g, i * 3 + 2, none⟩ = some (.int .i64 q) := by
    rw [World.cell?_setCell_other _ _ _ _ (fun e => by have e' := congrArg Addr.off e; simp only at e'; omega)]; exact cB3
  have cC4 : (wB.setCell ⟨g, i * 3, none⟩ (.slice none 0 0)).cell? ⟨b, 4, none⟩ = some fs := by
    rw [World.cell?_setCell_other _ _ _ _ (fun e => hgb (congrArg Addr.block e))]; exact cB4
  obtain ⟨wC, hwC⟩ : ∃ wC, wB.setCell ⟨g, i * 3, none⟩ (.slice none 0 0) = wC := ⟨_, rfl⟩
  have fCb : ∀ j, wC.frozen? ⟨b, j, none⟩ = false := fun j => by rw [← hwC, World.frozen?_setCell]; exact fBb j
  have fCg : ∀ j, wC.frozen? ⟨g, j, none⟩ = false := fun j => by rw [← hwC, World.frozen?_setCell]; exact fBg j
  rw [hwC] at cC3 cC4
  have cD4 : (wC.setCell ⟨g, i * 3 + 2, none⟩ (.int .i64 ((q : Int) + 1))).cell? ⟨b, 4, none⟩ = some fs := by
    rw [World.cell?_setCell_other _ _ _ _ (fun e => hgb (congrArg Addr.block e))]; exact cC4
  obtain ⟨wD, hwD⟩ : ∃ wD, wC.setCell ⟨g, i * 3 + 2, none⟩ (.int .i64 ((q : Int) + 1)) = wD := ⟨_, rfl⟩
  have fDb : ∀ j, wD.frozen? ⟨b, j, none⟩ = false := fun j => by rw [← hwD, World.frozen?_setCell]; exact fCb j
  rw [hwD] at cD4
  rw [hwA, hwB, hwC, hwD] at hfr
  obtain ⟨⟨qs, hBD⟩, hkD⟩ := hfr
  obtain ⟨f, hfl, hfl2⟩ : ∃ f, a.free.length = f ∧ f ≤ 4096 := ⟨_, rfl, hfL⟩
  have hrow : wD.ownsRow 0 3 1 fs f (nats a.free) := by rw [← hfl]; exact hBD.rf
  have hoA : ∀ o, (wD.alloc o).ownsRow 0 3 1 fs f (nats a.free) := fun o => hrow.alloc o
  have hnA : ∀ j u, [Value.int .i64 i][j]? = some u → (wD.alloc (.cells #[Value.int .i64 i] 3)).cell? ((⟨wD.heap.size, 0, none⟩ : Addr).add j) = some u :=
    World.news_of_block (cs := #[Value.int .i64 i]) (heap_alloc_new wD _)
  have hone : ∀ u ∈ [Value.int .i64 i], u.oneCell' = true := by intro u hu; simp at hu; subst hu; rfl
  have hc1 : f + 1 ≤ maxLen := by unfold maxLen; omega
  have hc2 : (f + 1) * 8 ≤ 140737488355328 := by omega
  obtain ⟨i0, hi, hz0, hz1, hz2⟩ := info_parts Tryz.infoInt
  have hbD := hBD.lt b hBD.inF
  have hbF : ¬ fs.ownBlock = some b := fun e => hBD.neF e rfl
  have HD := Lib.hid (And.intro hBD (And.intro hkD (And.intro hfl (And.intro hc1 (And.intro hc2 hbF)))))
  clear hc d1 hlen hU hq hu huM hby hcb hlb hg hBD hkD hfl hfL hc1 hc2 hbF hrow fA
  go_enter Tryz.func90, Tryz.ntmps90
  go_wp2_with (go_at_call 69; refine (find_ok h hf.slot hL hf.held n hf.lo hnM hf.at' hf.gen hv).mono ?_; rintro e w1 ⟨rfl, rfl⟩)
  go_region
  go_wp2_with (at_builtin; refine wpList_append_lies _ rfl _ _ 22 rfl 0 3 i0 (.int .i64 0) 1 8 Tryz.underlying22 hi hz0 hz1 hz2 rfl (by omega) fs f _ rfl (hoA _) ⟨wD.heap.size, 0, none⟩ 1 1 [.int .i64 i] rfl rfl hnA hone (by omega) HD.out.2.2.2.1 HD.out.2.2.2.2.1 (Nat.zero_le _) (wD.heap.size + 1) (by simp) ?_; intro g1 cap1 w3 hown hgrow hat3 hlt3; refine Hid.out ?_)
  have hgrow' : (wD.alloc (.cells #[Value.int .i64 i] 3)).grownBy w3 fs.ownBlock := ⟨hgrow.os, hgrow.tape, hgrow.output, hgrow.size, hgrow.block⟩
  have hkk : Kp (fun q => fs.ownBlock = some q) wD w3 := ((Kp.refl _ wD).alloc _).grown hgrow' (fun q hq => .inl hq)
  have d4 : w3.cell? ⟨b, 4, none⟩ = some fs := (hkk.cell (p := ⟨b, 4, none⟩) hbD HD.out.2.2.2.2.2).trans cD4
  have e0' : ∀ j, w3.frozen? ⟨b, j, none⟩ = false := fun j => (hkk.frozen (p := ⟨b, j, none⟩) hbD HD.out.2.2.2.2.2).trans (fDb j)
  have Hp := Lib.hid (HD.out.1.pushFree (i := i) (by show w3.ownsRow 0 3 1 _ (a.free.length + 1) _; rw [HD.out.2.2.1]; exact hown) hgrow' hat3 hlt3)
  clear hkk hown hgrow hgrow' hat3 hlt3 hnA hoA hone cA0 cA1 cA2 cA3 cA4 cB0 cB3 cB4 cC3 cC4 cD4
  refine Lib.hid ?_
  go_wp2_with fail
  go_ret
  have hp := Hp.out
  have hkD := HD.out.2.1
  simp only [HD.out.2.2.1] at hp
  obtain ⟨hk, F', hn, hB⟩ := hp
  refine ⟨rfl, ?_, F', fun q hq => (hn q hq).elim .inl (fun e => .inr (Nat.le_trans hkD.size e)), ?_⟩
  · exact hkD.trans' ⟨hk.os, hk.tape, hk.output, hk.size, hk.block⟩
  · rw [Hf.out.1, Hf.out.2.1, Hf.out.2.2]
    obtain ⟨x, y, z, hB⟩ := hB
    exact ⟨x, y, z, hB⟩
end
end Go.Proofs.YtkcmfldcdokobaaGreatDoor
