/- The document's own heap of binaries: find where it fails, Keep, Get, Part, Handles. -/
import Derived.Test.YtlnckpjpoaokjaaRefFun
namespace Go.Proofs.Ytlnckpjpoaokjaa
open Go.RowKit
section
variable {F : Nat → Prop} {w w3 : World} {b : Nat} {a : Bn} {ss fs : Value} {ps : List (Value × Value × Value)} {N : Nat}

theorem ret_k {k : Int} (j : Int) (h : k = j) : Ending.returned (.tuple #[.int .i64 0, .int .i64 j]) = .returned (.tuple #[.int .i64 0, .int .i64 k]) := by rw [h]

set_option maxHeartbeats 2000000 in
theorem xfind_bad (h : XRep F w b a ss fs ps) (hL : a.slots.length ≤ 4096) (hgen : ∀ (i : Nat) (s : Sl), a.slots[i]? = some s → s.gen ≤ 1000000000000000) (n k : Int) (hnm : -9223372036854775808 ≤ n) (hnM : n ≤ 9223372036854775807) (hbad : FBad a n k) :
    Calls Try.prog 49 #[.pointer (some ⟨b, 0, none⟩), .int .i64 n] w fun e w' => e = .returned (.tuple #[.int .i64 0, .int .i64 k]) ∧ Kp (fun _ => False) w w' := by
  obtain ⟨_, _, c2, _, _⟩ := h.cells
  by_cases h0 : n < 0
  · have hk : k = 3 := by rcases hbad with ⟨e, _⟩ | ⟨_, e, _⟩ <;> omega
    have Hk := Lib.hid hk
    clear hk hbad h hL
    go_enter Try.func49, Try.ntmps49
    go_wp2
    go_ret2
    exact ⟨ret_k 3 Hk.out, Kp.refl _ w⟩
  · have h0' : 0 ≤ n := by omega
    clear h0
    obtain ⟨i, hi⟩ : ∃ i : Nat, n % 4096 = i := ⟨(n % 4096).toNat, by omega⟩
    obtain ⟨po, cap, hv⟩ := slice_form h.rs
    obtain ⟨L, hLe, hL1⟩ : ∃ L, a.slots.length = L ∧ L ≤ 4096 := ⟨_, rfl, hL⟩
    by_cases h1 : L ≤ i
    · have hk : k = 3 := by
        rcases hbad with ⟨e, _⟩ | ⟨_, _, i', s, e1, e2, _⟩
        · exact e
        · have := (List.getElem?_eq_some_iff.1 e2).1; omega
      have Hk := Lib.hid hk
      rw [hv, hLe] at c2
      have h1' : (L : Int) ≤ i := by omega
      clear hk hbad h hL hv hLe hgen
      go_enter Try.func49, Try.ntmps49
      go_wp2
      go_ret2
      exact ⟨ret_k 3 Hk.out, Kp.refl _ w⟩
    · obtain ⟨s, hs⟩ : ∃ s, a.slots[i]? = some s := ⟨_, List.getElem?_eq_getElem (by omega)⟩
      obtain ⟨g, cap', v, hv', _, hby, d0, d1, d2, _, _, _⟩ := h.slot hs
      obtain ⟨p, c, rfl⟩ := hby.form' (m := s.bs.length) rfl
      have hgs := hgen i s hs
      obtain ⟨q, hq, hqM⟩ : ∃ q, s.gen = q ∧ q ≤ 1000000000000000 := ⟨_, rfl, hgs⟩
      obtain ⟨c, hc⟩ : ∃ c, s.count = c := ⟨_, rfl⟩
      obtain ⟨m, hm, hm0⟩ : ∃ m : Int, n / 4096 = m ∧ 0 ≤ m := ⟨_, rfl, by omega⟩
      have hk : (k = 3 ∧ (q : Int) < m) ∨ (k = 4 ∧ m < q) ∨ (k = 4 ∧ m = q ∧ c = 0) := by
        rcases hbad with ⟨e, e3⟩ | ⟨e, _, i', s', e1, e2, e3⟩
        · rcases e3 with e3 | e3 | ⟨i', s', e1, e2, e3⟩
          · omega
          · omega
          · obtain rfl : i' = i := by omega
            rw [hs] at e2; injection e2 with e2; subst e2
            exact .inl ⟨e, by omega⟩
        · obtain rfl : i' = i := by omega
          rw [hs] at e2; injection e2 with e2; subst e2
          rcases e3 with e3 | ⟨e3, e4⟩
          · exact .inr (.inl ⟨e, by omega⟩)
          · exact .inr (.inr ⟨e, by omega, by omega⟩)
      rw [hv', hLe] at c2
      rw [hc] at d1
      have hil : i < L := by omega
      by_cases hc0 : c = 0
      · have hgiv : s.given = q := by unfold Sl.given; rw [if_pos (by omega), hq]
        rw [hgiv] at d0
        rw [hc0] at d1
        have d1' : w.cell? ⟨g, i * 3 + 1, none⟩ = some (.int .i64 0) := d1
        by_cases hqm : (q : Int) < m
        · have hk3 : k = 3 := by omega
          have Hk := Lib.hid hk3
          clear hk hk3 hbad h hL hv hLe hs hq hc h1 hgen hgs hby hgiv hv' d1 hc0
          go_enter Try.func49, Try.ntmps49
          go_wp2
          go_ret2
          exact ⟨ret_k 3 Hk.out, Kp.refl _ w⟩
        · have hk3 : k = 4 := by omega
          have Hk := Lib.hid hk3
          clear hk hk3 hbad h hL hv hLe hs hq hc h1 hgen hgs hby hgiv hv' d1 hc0
          go_enter Try.func49, Try.ntmps49
          go_wp2
          go_ret2
          exact ⟨ret_k 4 Hk.out, (Kp.refl _ w).alloc _⟩
      · have hgiv : s.given = q + 1 := by unfold Sl.given; rw [if_neg (by omega), hq]
        rw [hgiv] at d0
        have d0' : w.cell? ⟨g, i * 3, none⟩ = some (.int .i64 ((q : Int) + 1)) := d0
        have hcb : ((c : Int) == 0) = false := by simp; omega
        by_cases hqm : (q : Int) + 1 < m
        · have hk3 : k = 3 := by omega
          have Hk := Lib.hid hk3
          clear hk hk3 hbad h hL hv hLe hs hq hc h1 hgen hgs hby hgiv hv' d0 hc0
          go_enter Try.func49, Try.ntmps49
          go_wp2
          go_ret2
          exact ⟨ret_k 3 Hk.out, Kp.refl _ w⟩
        · by_cases hqe : (q : Int) + 1 ≤ m
          · have hk3 : k = 3 := by omega
            have Hk := Lib.hid hk3
            clear hk hk3 hbad h hL hv hLe hs hq hc h1 hgen hgs hby hgiv hv' d0 hc0
            go_enter Try.func49, Try.ntmps49
            go_wp2
            go_ret2
            exact ⟨ret_k 3 Hk.out, (Kp.refl _ w).alloc _⟩
          · have hk3 : k = 4 ∧ m < q := by omega
            obtain ⟨hk3, hmq⟩ := hk3
            have hne : (m != (q : Int)) = true := by simp; omega
            have Hk := Lib.hid hk3
            clear hk hk3 hbad h hL hv hLe hs hq hc h1 hgen hgs hby hgiv hv' d0 hc0
            go_enter Try.func49, Try.ntmps49
            go_wp2
            go_ret2
            exact ⟨ret_k 4 Hk.out, (Kp.refl _ w).alloc _⟩

set_option maxHeartbeats 400000 in
theorem xkeep_bad (h : XRep F w b a ss fs ps) (hL : a.slots.length ≤ 4096) (hgen : ∀ (i : Nat) (s : Sl), a.slots[i]? = some s → s.gen ≤ 1000000000000000) (n k : Int) (hnm : -9223372036854775808 ≤ n) (hnM : n ≤ 9223372036854775807) (hbad : FBad a n k) :
    Calls Try.prog 15 #[.pointer (some ⟨b, 0, none⟩), .int .i64 n] w (XBad w (fun v => v) [Lk.fault keepS n, Lk.kind k]) := by
  have hk0 : (k != 0) = true := by have := hbad.kind.1; simpa using this
  go_enter Try.func15, Try.ntmps15
  go_wp2_with fail
  refine (xfind_bad h hL hgen n k hnm hnM hbad).mono ?_
  rintro e w1 ⟨rfl, hk1⟩
  have Hk1 := Lib.hid hk1
  clear hk1
  go_wp2_with (first | (go_at_call 41; refine (k_any _ _).mono ?_; rintro e w1 ⟨rfl, rfl⟩) | (go_at_call 40; refine (f_any _ _ _ _).mono ?_; rintro e w1 ⟨rfl, rfl⟩))
  go_ret
  obtain ⟨v, h1, h2, h3⟩ := xbad1 w1 (fun v => v) keepS n k 0
  exact ⟨v, h1, h2, Hk1.out.trans' h3⟩

set_option maxHeartbeats 400000 in
theorem xdrop_bad (h : XRep F w b a ss fs ps) (hL : a.slots.length ≤ 4096) (hgen : ∀ (i : Nat) (s : Sl), a.slots[i]? = some s → s.gen ≤ 1000000000000000) (n k : Int) (hnm : -9223372036854775808 ≤ n) (hnM : n ≤ 9223372036854775807) (hbad : FBad a n k) :
    Calls Try.prog 17 #[.pointer (some ⟨b, 0, none⟩), .int .i64 n] w (XBad w (fun v => v) [Lk.fault dropS n, Lk.kind k]) := by
  have hk0 : (k != 0) = true := by have := hbad.kind.1; simpa using this
  go_enter Try.func17, Try.ntmps17
  go_wp2_with fail
  refine (xfind_bad h hL hgen n k hnm hnM hbad).mono ?_
  rintro e w1 ⟨rfl, hk1⟩
  have Hk1 := Lib.hid hk1
  clear hk1
  go_wp2_with (first | (go_at_call 41; refine (k_any _ _).mono ?_; rintro e w1 ⟨rfl, rfl⟩) | (go_at_call 40; refine (f_any _ _ _ _).mono ?_; rintro e w1 ⟨rfl, rfl⟩))
  go_ret
  obtain ⟨v, h1, h2, h3⟩ := xbad1 w1 (fun v => v) dropS n k 0
  exact ⟨v, h1, h2, Hk1.out.trans' h3⟩

set_option maxHeartbeats 400000 in
theorem xget_bad (op : ByteArray) (h : XRep F w b a ss fs ps) (hL : a.slots.length ≤ 4096) (hgen : ∀ (i : Nat) (s : Sl), a.slots[i]? = some s → s.gen ≤ 1000000000000000) (n k : Int) (hnm : -9223372036854775808 ≤ n) (hnM : n ≤ 9223372036854775807) (hbad : FBad a n k) :
    Calls Try.prog 19 #[.pointer (some ⟨b, 0, none⟩), .string op, .int .i64 n] w (XBad w (fun v => .tuple #[.slice none 0 0, .int .i64 0, v]) [Lk.fault op n, Lk.kind k]) := by
  have hk0 : (k != 0) = true := by have := hbad.kind.1; simpa using this
  go_enter Try.func19, Try.ntmps19
  go_wp2_with fail
  refine (xfind_bad h hL hgen n k hnm hnM hbad).mono ?_
  rintro e w1 ⟨rfl, hk1⟩
  have Hk1 := Lib.hid hk1
  clear hk1
  go_wp2_with (first | (go_at_call 41; refine (k_any _ _).mono ?_; rintro e w1 ⟨rfl, rfl⟩) | (go_at_call 40; refine (f_any _ _ _ _).mono ?_; rintro e w1 ⟨rfl, rfl⟩))
  go_ret3
  obtain ⟨v, h1, h2, h3⟩ := xbad1 w1 (fun v => .tuple #[.slice none 0 0, .int .i64 0, v]) op n k 0
  exact ⟨v, h1, h2, Hk1.out.trans' h3⟩

set_option maxHeartbeats 1000000 in
theorem xget_ok (op : ByteArray) (h : XRep F w b a ss fs ps) (hL : a.slots.length ≤ 4096) {n : Int} {i : Nat} {s : Sl} (hf : FOk a n i s) (hnM : n ≤ 9223372036854775807) (hg : s.gen ≤ 1000000000000000) :
    Calls Try.prog 19 #[.pointer (some ⟨b, 0, none⟩), .string op, .int .i64 n] w fun e w' => ∃ v, e = .returned (.tuple #[v, .int .i64 s.count, .pointer none]) ∧ BytesAt (Byt F w') w' s.bs v ∧ Kp (fun _ => False) w w' := by
  obtain ⟨q, hq⟩ : ∃ q, s.count = q := ⟨_, rfl⟩
  rw [hq]
  have Hq := Lib.hid hq
  clear hq
  go_enter Try.func19, Try.ntmps19
  go_wp2_with fail
  refine (xfind_ok h hL hf hnM hg).mono ?_
  rintro e w1 ⟨rfl, hk1⟩
  have h1 := h.kp hk1 (fun _ _ e => e)
  obtain ⟨_, _, c2, _, _⟩ := h1.cells
  obtain ⟨g, cap, v, hv, _, hby, d0, d1, d2, _, _, _⟩ := h1.slot hf.slot
  obtain ⟨p, c, rfl⟩ := hby.form' (m := s.bs.length) rfl
  have hil := (List.getElem?_eq_some_iff.1 hf.slot).1
  obtain ⟨L, hLe, hL1, hL2⟩ : ∃ L, a.slots.length = L ∧ L ≤ 4096 ∧ i < L := ⟨_, rfl, hL, hil⟩
  obtain ⟨m, hm⟩ : ∃ m, s.bs.length = m := ⟨_, rfl⟩
  rw [hm] at d2
  rw [Hq.out] at d1
  rw [hv, hLe] at c2
  have H1 := Lib.hid (And.intro hk1 (And.intro hby hm))
  clear h h1 hL hf hLe hv hil hk1 hby hm d0 hg
  go_wp2_with fail
  go_quiet (fail)
  go_wp2_with fail
  go_ret3
  refine ⟨_, rfl, ?_, Kp.drewN' H1.out.1 _⟩
  have := H1.out.2.1
  rw [H1.out.2.2] at this
  exact this

set_option maxHeartbeats 400000 in
theorem xpart_bad (h : XRep F w b a ss fs ps) (hL : a.slots.length ≤ 4096) (hgen : ∀ (i : Nat) (s : Sl), a.slots[i]? = some s → s.gen ≤ 1000000000000000) (n k : Int) (hnm : -9223372036854775808 ≤ n) (hnM : n ≤ 9223372036854775807) (hbad : FBad a n k) (x y : Int) :
    Calls Try.prog 21 #[.pointer (some ⟨b, 0, none⟩), .int .i64 n, .int .i64 x, .int .i64 y] w fun e w' => ∃ v, e = .returned (.tuple #[.slice none 0 0, v]) ∧ XCh w' v [Lk.fault partS n, Lk.kind k] ∧ Kp (fun _ => False) w w' := by
  go_enter Try.func21, Try.ntmps21
  go_wp2_with fail
  refine (xget_bad partS h hL hgen n k hnm hnM hbad).mono ?_
  rintro e w1 ⟨v, rfl, hc, hk1⟩
  obtain ⟨gv, rfl⟩ : ∃ gv, v = .pointer (some ⟨gv, 0, none⟩) := by
    rcases hc with ⟨e, _⟩ | ⟨_, _, g, gi, e, _⟩
    · cases e
    · exact ⟨g, e⟩
  have Hk1 := Lib.hid (And.intro hc hk1)
  clear hc hk1
  go_wp2_with fail
  go_ret2
  exact ⟨_, rfl, Hk1.out⟩

set_option maxHeartbeats 1000000 in
theorem xpart_ok (h : XRep F w b a ss fs ps) (hL : a.slots.length ≤ 4096) {n : Int} {i : Nat} {s : Sl} (hf : FOk a n i s) (hnM : n ≤ 9223372036854775807) (hg : s.gen ≤ 1000000000000000) (x y : Nat) (hxy : x + y ≤ s.bs.length) :
    Calls Try.prog 21 #[.pointer (some ⟨b, 0, none⟩), .int .i64 n, .int .i64 x, .int .i64 y] w fun e w' => ∃ v, e = .returned (.tuple #[v, .pointer none]) ∧ BytesAt (Byt F w') w' ((s.bs.drop x).take y) v ∧ Kp (fun _ => False) w w' := by
  obtain ⟨len, hlen⟩ : ∃ len, s.bs.length = len := ⟨_, rfl⟩
  rw [hlen] at hxy
  have Hlen := Lib.hid hlen
  clear hlen
  go_enter Try.func21, Try.ntmps21
  go_wp2_with fail
  refine (xget_ok partS h hL hf hnM hg).mono ?_
  rintro e w1 ⟨v, rfl, hby, hk1⟩
  obtain ⟨po, cb, rfl⟩ := hby.form' Hlen.out
  obtain ⟨_, _, e, hcb, hlb, _⟩ := id hby
  injection e with e0 e1 e2
  subst e0 e2
  have hcb' : len ≤ cb := by have := Hlen.out; omega
  have hlb' : len ≤ 140737488351232 := by have := Hlen.out; omega
  have Hk1 := Lib.hid (And.intro hby hk1)
  clear hby hk1 hcb hlb e1
  go_wp2_with fail
  all_goals
    have hb1 : BytesAt (Byt F w1) w1 s.bs (.slice po s.bs.length cb) := by rw [Hlen.out]; exact Hk1.out.1
    have hle := Hlen.out
    go_ret2
    refine ⟨_, rfl, ?_, Hk1.out.2⟩
    refine bytes_sub (x := x) (y := y) hb1 (by omega) _ (by omega) ?_
    intro hy
    first | rfl | (exfalso; omega)

set_option maxHeartbeats 1000000 in
theorem xpart_out (h : XRep F w b a ss fs ps) (hL : a.slots.length ≤ 4096) {n : Int} {i : Nat} {s : Sl} (hf : FOk a n i s) (hnM : n ≤ 9223372036854775807) (hg : s.gen ≤ 1000000000000000) (x y : Int)
    (hx : -9223372036854775808 ≤ x ∧ x ≤ 9223372036854775807) (hy : -9223372036854775808 ≤ y ∧ y ≤ 9223372036854775807) (hxy : x < 0 ∨ y < 0 ∨ (s.bs.length : Int) - x < y) :
    Calls Try.prog 21 #[.pointer (some ⟨b, 0, none⟩), .int .i64 n, .int .i64 x, .int .i64 y] w fun e w' => ∃ v, e = .returned (.tuple #[.slice none 0 0, v]) ∧ XCh w' v [Lk.fault partS n, Lk.kind 12] ∧ Kp (fun _ => False) w w' := by
  obtain ⟨len, hlen⟩ : ∃ len, s.bs.length = len := ⟨_, rfl⟩
  rw [hlen] at hxy
  have Hlen := Lib.hid hlen
  clear hlen
  have key : ∀ (H : (x < 0) ∨ (0 ≤ x ∧ y < 0) ∨ (0 ≤ x ∧ 0 ≤ y ∧ (len : Int) < x) ∨ (0 ≤ x ∧ 0 ≤ y ∧ x ≤ len ∧ (len : Int) - x < y)), Calls Try.prog 21 #[.pointer (some ⟨b, 0, none⟩), .int .i64 n, .int .i64 x, .int .i64 y] w fun e w' => ∃ v, e = .returned (.tuple #[.slice none 0 0, v]) ∧ XCh w' v [Lk.fault partS n, Lk.kind 12] ∧ Kp (fun _ => False) w w' := by
    intro H
    rcases H with H | ⟨H0, H⟩ | ⟨H0, H1, H⟩ | ⟨H0, H1, H2, H⟩
    all_goals
      clear hxy
      go_enter Try.func21, Try.ntmps21
      go_wp2_with fail
      refine (xget_ok partS h hL hf hnM hg).mono ?_
      rintro e w1 ⟨v, rfl, hby, hk1⟩
      obtain ⟨po, cb, rfl⟩ := hby.form' Hlen.out
      obtain ⟨_, _, e, hcb, hlb, _⟩ := id hby
      injection e with _ e1 e2
      have hlb' : len ≤ 140737488351232 := by have := Hlen.out; omega
      have Hk1 := Lib.hid hk1
      clear hby hk1 hcb hlb e1 e2
      go_wp2_with (first | (go_at_call 41; refine (k_any _ _).mono ?_; rintro e w1 ⟨rfl, rfl⟩) | (go_at_call 40; refine (f_any _ _ _ _).mono ?_; rintro e w1 ⟨rfl, rfl⟩))
      go_ret2
      obtain ⟨v, h1, h2, h3⟩ := xbad1 w1 (fun v => .tuple #[.slice none 0 0, v]) partS n 12 0
      exact ⟨v, h1, h2, Hk1.out.trans' h3⟩
  exact key (by omega)

theorem given_pos {s : Sl} (h : 0 < s.count) : s.given = s.gen + 1 := by unfold Sl.given; rw [if_neg (by omega)]

set_option maxRecDepth 100000 in
set_option maxHeartbeats 2000000 in
theorem xhandles_any (h : XRep F w b a ss fs ps) (hL : a.slots.length ≤ 4096) (hg : ∀ (i : Nat) (s : Sl), a.slots[i]? = some s → s.gen ≤ 1000000000000000) :
    Calls Try.prog 27 #[.pointer (some ⟨b, 0, none⟩)] w fun e w' => ∃ v, e = .returned v ∧ w'.ownsRow w.heap.size 3 1 v a.held.length (ints a.held) ∧ Kp (fun _ => False) w w' := by
  obtain ⟨L, hLe, hL1⟩ : ∃ L, a.slots.length = L ∧ L ≤ 4096 := ⟨_, rfl, hL⟩
  have H := Lib.hid (And.intro h (And.intro hg hLe))
  clear h hg hL hLe
  go_enter Try.func27, Try.ntmps27
  go_wp2_with fail
  go_loopg [3, 4] L (fun gk v i wr => ∃ (k : Nat) (vs : Value), k ≤ L ∧ gk = L - k ∧ i = Value.int .i64 k ∧ vs = v ∧ wr.ownsRow w.heap.size 3 1 vs (heldN a.slots k).length (ints (heldN a.slots k)) ∧ Kp (fun _ => False) w wr)
  case atStart => exact ⟨0, _, by omega, rfl, rfl, rfl, World.ownsRow_nil _ _ _ _, Kp.refl _ w⟩
  case round =>
    obtain ⟨k, vs, hk, rfl, rfl, rfl, hrow, hK⟩ := hrel
    have hB := H.out.1.kp hK (fun _ _ e => e)
    obtain ⟨_, _, c2, _, _⟩ := hB.cells
    by_cases hlt : k < L
    · obtain ⟨s, hs⟩ : ∃ s, a.slots[k]? = some s := ⟨_, List.getElem?_eq_getElem (by have := H.out.2.2; omega)⟩
      have hgs := H.out.2.1 k s hs
      obtain ⟨g, cap, v, hv, _, _, d0, d1, d2, _, _, _⟩ := hB.slot hs
      rw [hv, H.out.2.2] at c2
      obtain ⟨q, hq, hq2⟩ : ∃ q, s.gen = q ∧ q ≤ 1000000000000000 := ⟨_, rfl, hgs⟩
      obtain ⟨c, hc⟩ : ∃ c, s.count = c := ⟨_, rfl⟩
      rw [hc] at d1
      have hli : (k : Int) < L := by omega
      by_cases hc0 : c = 0
      · subst hc0
        have d1' : wr.cell? ⟨g, k * 3 + 1, none⟩ = some (.int .i64 0) := d1
        have Hx := Lib.hid (And.intro hrow (And.intro hK (heldN_none hs hc)))
        clear hrow hK hs hgs hv d0 d1 d2 hB hq hc
        go_wp2_with fail
        go_roundg (L - (k + 1))
        case measure => omega
        case rel => exact ⟨k + 1, _, by omega, rfl, by go_num, rfl, by rw [Hx.out.2.2]; exact Hx.out.1, Hx.out.2.1⟩
      · have hcp : (0 : Int) < c := by omega
        have hgiv := given_pos (s := s) (by omega)
        rw [hgiv, hq] at d0
        have d0' : wr.cell? ⟨g, k * 3, none⟩ = some (.int .i64 ((q : Int) + 1)) := d0
        have hlen := heldN_le a.slots k
        have hc1 : (heldN a.slots k).length + 1 ≤ maxLen := by unfold maxLen; omega
        have hc2 : ((heldN a.slots k).length + 1) * 8 ≤ 140737488355328 := by omega
        obtain ⟨hh, hhe⟩ : ∃ hh, (heldN a.slots k).length = hh := ⟨_, rfl⟩
        rw [hhe] at hc1 hc2 hrow
        have hoA : ∀ o, (wr.alloc o).ownsRow w.heap.size 3 1 vs hh (ints (heldN a.slots k)) := fun o => hrow.alloc o
        have hnA : ∀ i u, [Value.int .i64 ((q : Int) * 4096 + k)][i]? = some u → (wr.alloc (.cells #[Value.int .i64 ((q : Int) * 4096 + k)] 3)).cell? ((⟨wr.heap.size, 0, none⟩ : Addr).add i) = some u :=
          World.news_of_block (cs := #[Value.int .i64 ((q : Int) * 4096 + k)]) (heap_alloc_new wr _)
        have hone : ∀ u ∈ [Value.int .i64 ((q : Int) * 4096 + k)], u.oneCell' = true := by intro u hu; simp at hu; subst hu; rfl
        obtain ⟨i0, hi, hz0, hz1, hz2⟩ := info_parts Try.infoInt
        have hbase : w.heap.size ≤ (wr.alloc (.cells #[Value.int .i64 ((q : Int) * 4096 + k)] 3)).heap.size := by have := hK.size; simp; omega
        have Hx := Lib.hid (And.intro hK (And.intro hrow (And.intro (heldN_some hs (by omega)) (And.intro hc1 (And.intro hc2 (And.intro hhe hq))))))
        clear hs hq hB hrow hK hc1 hc2 hv hhe hlen hgs hc hgiv d0 d2 hc0
        go_wp2_with (at_builtin; refine wpList_append_lies _ rfl _ _ 34 rfl w.heap.size 3 i0 (.int .i64 0) 1 8 Try.underlying34 hi hz0 hz1 hz2 rfl (by omega) vs hh _ rfl (hoA _) ⟨wr.heap.size, 0, none⟩ 1 1 [.int .i64 ((q : Int) * 4096 + k)] rfl rfl hnA hone (by omega) Hx.out.2.2.2.1 Hx.out.2.2.2.2.1 hbase (wr.heap.size + 1) (by simp) ?_; intro g1 cap1 w3 hown hgrow hat hlt3; have Hy := Lib.hid (And.intro hown (And.intro hgrow (And.intro hat hlt3))); clear hown hgrow hat hlt3)
        have hfin : w3.ownsRow w.heap.size 3 1 (.slice (some ⟨g1, 0, none⟩) (hh + 1) cap1) (heldN a.slots (k + 1)).length (ints (heldN a.slots (k + 1))) ∧ Kp (fun _ => False) w w3 := by
          obtain ⟨hown, hgrow, hat, hlt3⟩ := Hy.out
          obtain ⟨hK1, hrow1, he, _, _, hhe, hq⟩ := Hx.out
          refine ⟨?_, (hK1.alloc _).grown hgrow (fun q hq => .inr (hrow1.lt q hq).1)⟩
          rw [he, ints_snoc, List.length_append, hhe, hq, show (k : Int) + 4096 * (q : Int) = (q : Int) * 4096 + k by omega]
          exact hown
        have Hz := Lib.hid hfin
        clear hfin Hy hoA hnA hone hbase
        go_roundg (L - (k + 1))
        case measure => omega
        case rel => exact ⟨k + 1, _, by omega, rfl, by go_num, rfl, Hz.out.1, Hz.out.2⟩
    · obtain rfl : L = k := by omega
      obtain ⟨pS, capS, hS⟩ := slice_form hB.rs
      rw [hS, H.out.2.2] at c2
      have Hx := Lib.hid (And.intro hrow hK)
      clear hrow hK hB hS
      go_wp2_with fail
      go_ret
      refine ⟨_, rfl, ?_, Hx.out.2⟩
      have := Hx.out.1
      rw [← H.out.2.2] at this
      exact this
end
end Go.Proofs.Ytlnckpjpoaokjaa
