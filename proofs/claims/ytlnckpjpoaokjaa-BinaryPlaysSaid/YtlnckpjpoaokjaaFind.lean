/- binary: copied, handle, find. -/
import Derived.Test.YtlnckpjpoaokjaaBin
import Derived.Test.YtlnckpjpoaokjaaXs
import Derived.RegionTactic
import Derived.BigQuiet
import Derived.Deep.QuietTactic
namespace Go.Proofs.Ytlnckpjpoaokjaa
open Go.RowKit

theorem Try.sizeByte : (Try.prog.info? 5).map (·.size) = some 1 := by kernel_rfl

set_option maxRecDepth 100000 in
set_option maxHeartbeats 400000 in
theorem copied_any {F : Nat → Prop} {w : World} {l : List UInt8} {v : Value} (h : BytesAt F w l v) :
    Calls Try.prog 46 #[v] w fun e w' => ∃ v', e = .returned v' ∧ BytesAt (Byt (Own w.heap.size w') w') w' l v' ∧ Kp (fun _ => False) w w' := by
  obtain ⟨po, cap, rfl, h2, h3, h4⟩ := h
  obtain ⟨i0, hi, hz0, hz1, hz2⟩ := info_parts Try.infoByte
  have hsz := Try.sizeByte
  have hone := bcells_one l
  have hb1 : i0.bytes * l.length ≤ 281474976710656 := by rw [hz2]; omega
  have hb2 : l.length ≤ maxLen := by unfold maxLen; omega
  obtain ⟨n, hn, hn2⟩ : ∃ n, l.length = n ∧ n ≤ 140737488351232 := ⟨_, rfl, h3⟩
  rw [hn] at hb1 hb2 h2 h3 ⊢
  have Hc := Lib.hid (And.intro hn (And.intro hb1 (And.intro hb2 h4)))
  have hll : (bcells l).length = n := by rw [bcells_len, hn]
  obtain ⟨cs, hcs⟩ : ∃ cs, bcells l = cs := ⟨_, rfl⟩
  rw [hcs] at hone hll
  have Hl := Lib.hid (And.intro hcs hll)
  clear hb1 hb2 hn h4 hcs hll
  go_enter Try.func46, Try.ntmps46
  go_wp2_with (at_make; refine wpList_make_full _ rfl _ _ 35 rfl w.heap.size 5 i0 (.int .u8 0) 1 Try.underlying35 hi hz0 hz1 .i64 .i64 _ _ n rfl rfl rfl rfl Hc.out.2.1 Hc.out.2.2.1 (Nat.le_refl _) ?_; intro w1 hown hgrow; refine Hid.out ?_)
  obtain ⟨cur, hg, hcs1⟩ : ∃ cur : List Value, w1.heap[w.heap.size]? = some (.cells cur.toArray 5 (0, 0)) ∧ cur.length = n := by
    rcases hown.2 with ⟨e, _⟩ | ⟨g, cp, cur, e, _, hh, h5, _, h6, _⟩
    · cases e
    · injection e with e e1 e2
      injection e with e
      injection e with e
      subst e
      exact ⟨cur.toList, by simpa using hh, by simp; omega⟩
  have hbel : Below w.heap.size w w1 := ⟨hgrow.os, hgrow.tape, hgrow.output, hgrow.size, fun k hk => hgrow.block k hk (by simp)⟩
  have hsrc : 0 < cs.length → (some (⟨w.heap.size, 0, none⟩ : Addr)) = some ⟨w.heap.size, 0, none⟩ ∧ ∃ ad, po = some ad ∧ ∀ j v, cs[j]? = some v → w1.cell? (ad.add j) = some v := by
    intro hpos
    refine ⟨rfl, ?_⟩
    have hl0 : 0 < l.length := by have := Hl.out.2; have := Hc.out.1; omega
    obtain ⟨b, off, rfl, _, _⟩ := Hc.out.2.2.2 0 l[0] (List.getElem?_eq_getElem hl0)
    refine ⟨_, rfl, fun j v hj => ?_⟩
    rw [← Hl.out.1, bcells, List.getElem?_map] at hj
    obtain ⟨c, hc, rfl⟩ := Option.map_eq_some_iff.1 hj
    obtain ⟨b2, off2, e2, _, hcell⟩ := Hc.out.2.2.2 j c hc
    injection e2 with e2
    rw [e2, Go.WideShapes.add_plain, hbel.cell (p := ⟨b2, off2 + j, none⟩) (World.block_lt_of_cell? _ _ hcell)]
    exact hcell
  have Hs := Lib.hid (And.intro hg (And.intro hcs1 (And.intro hbel hsrc)))
  clear hg hcs1 hbel hsrc hown hgrow
  refine Lib.hid ?_
  go_wp2_with (with_reducible refine wpList_copy_splice rfl _ _ 35 35 rfl 5 Try.underlying35 hsz (some ⟨w.heap.size, 0, none⟩) po n n n cap rfl rfl w.heap.size 0 cur 5 Hs.out.1 cs (by rw [Hl.out.2]; simp) Hs.out.2.2.2 (by rw [Hl.out.2, Hs.out.2.1]; omega) hone w.heap.size w Hs.out.2.2.1 (Nat.le_refl _) ?_; intro w2 hg2 hb2; refine Hid.out ?_)
  have hfin : BytesAt (Byt (Own w.heap.size w2) w2) w2 l (.slice (some ⟨w.heap.size, 0, none⟩) n n) ∧ Kp (fun _ => False) w w2 := by
    have hsp : splice cur 0 cs = cs := by simp [splice, Hl.out.2, Hs.out.2.1]
    have hgg := hg2.out
    rw [hsp] at hgg
    refine ⟨⟨_, n, by rw [Hc.out.1], by have := Hc.out.1; omega, by have := Hc.out.1; omega, fun i c hic => ⟨w.heap.size, 0, rfl, ⟨⟨Nat.le_refl _, (Array.getElem?_eq_some_iff.1 hgg).1⟩, ⟨_, hgg⟩⟩, ?_⟩⟩, below_kp hb2⟩
    rw [cell_of hgg, Nat.zero_add, ← Hl.out.1]
    simpa using bcells_get hic
  have Hf := Lib.hid hfin
  clear hfin hg2 hb2
  refine Lib.hid ?_
  go_wp2_with fail
  go_ret
  exact ⟨_, rfl, Hf.out⟩

section
variable {F G : Nat → Prop} {w w' : World} {b : Nat} {a : Bn} {ss fs : Value} {ps : List (Value × Value × Value)}

theorem BRep.cells (h : BRep F w b a ss fs ps) : w.cell? ⟨b, 0, none⟩ = some (.int .i64 a.most) ∧ w.cell? ⟨b, 1, none⟩ = some (.int .i64 a.room) ∧ w.cell? ⟨b, 2, none⟩ = some (.int .i64 a.used) ∧
    w.cell? ⟨b, 3, none⟩ = some ss ∧ w.cell? ⟨b, 4, none⟩ = some fs ∧ ∀ j, w.frozen? ⟨b, j, none⟩ = false :=
  ⟨by rw [cell_of h.hb]; rfl, by rw [cell_of h.hb]; rfl, by rw [cell_of h.hb]; rfl, by rw [cell_of h.hb]; rfl, by rw [cell_of h.hb]; rfl, fun j => frozen_of h.hb j⟩

set_option maxHeartbeats 400000 in
theorem handle_any (h : BRep F w b a ss fs ps) {i : Nat} {s : Sl} (hs : a.slots[i]? = some s) (hL : a.slots.length ≤ 4096) (hg : s.gen ≤ 1000000000000000) :
    Calls Try.prog 47 #[.pointer (some ⟨b, 0, none⟩), .int .i64 i] w fun e w' => e = .returned (.int .i64 (i + 4096 * s.gen)) ∧ ∃ k, w' = w.drewN k := by
  obtain ⟨_, _, _, c3, _, _⟩ := h.cells
  obtain ⟨g, cap, v, rfl, _, _, d0, d1, d2, _, _, _⟩ := h.slot hs
  have hil := (List.getElem?_eq_some_iff.1 hs).1
  obtain ⟨L, hLe, hL1, hL2⟩ : ∃ L, a.slots.length = L ∧ L ≤ 4096 ∧ i < L := ⟨_, rfl, hL, hil⟩
  obtain ⟨q, hq, hq2⟩ : ∃ q, s.gen = q ∧ q ≤ 1000000000000000 := ⟨_, rfl, hg⟩
  rw [hLe] at c3
  rw [hq] at d2 ⊢
  clear hs hL hil hLe h hg hq
  go_enter Try.func47, Try.ntmps47
  go_wp2
  go_ret
  exact ⟨rfl, 0, rfl⟩

set_option maxHeartbeats 400000 in
theorem find_ok (h : BRep F w b a ss fs ps) {i : Nat} {s : Sl} (hs : a.slots[i]? = some s) (hL : a.slots.length ≤ 4096) (hc : 0 < s.count) (n : Int) (hn : 0 ≤ n) (hnM : n ≤ 9223372036854775807) (e1 : n % 4096 = i) (e2 : n / 4096 = s.gen)
    {g cap : Nat} (hv : ss = .slice (some ⟨g, 0, none⟩) a.slots.length cap) :
    Calls Try.prog 48 #[.pointer (some ⟨b, 0, none⟩), .int .i64 n] w fun e w' => e = .returned (.tuple #[.pointer (some ⟨g, i * 3, none⟩), .nilIface]) ∧ w = w' := by
  obtain ⟨_, _, _, c3, _, _⟩ := h.cells
  obtain ⟨g', cap', v, hv', _, _, d0, d1, d2, _, _, _⟩ := h.slot hs
  rw [hv] at hv'
  injection hv' with hv' _ hv''
  injection hv' with hv'
  injection hv' with hv'
  subst hv' hv'' hv
  have hil := (List.getElem?_eq_some_iff.1 hs).1
  obtain ⟨L, hLe, hL1, hL2⟩ : ∃ L, a.slots.length = L ∧ L ≤ 4096 ∧ i < L := ⟨_, rfl, hL, hil⟩
  obtain ⟨q, hq⟩ : ∃ q, s.gen = q := ⟨_, rfl⟩
  obtain ⟨k, hk, hk2⟩ : ∃ k, s.count = k ∧ 0 < k := ⟨_, rfl, hc⟩
  rw [hLe] at c3
  rw [hq] at d2 e2
  rw [hk] at d1
  have hk3 : ((k : Int) == 0) = false := by simp; omega
  clear hs hL hil hLe h hq hc hk
  go_enter Try.func48, Try.ntmps48
  go_wp2
  go_ret2
  exact ⟨rfl, rfl⟩

/-- the handle n is good: it is slot i's, which is s -/
structure FOk (a : Bn) (n : Int) (i : Nat) (s : Sl) : Prop where
  lo : 0 ≤ n
  at' : n % 4096 = i
  slot : a.slots[i]? = some s
  gen : n / 4096 = s.gen
  held : 0 < s.count
/-- the handle n is not good, for the reason k -/
def FBad (a : Bn) (n k : Int) : Prop :=
  (k = 3 ∧ (n < 0 ∨ (a.slots.length : Int) ≤ n % 4096 ∨ ∃ (i : Nat) (s : Sl), n % 4096 = i ∧ a.slots[i]? = some s ∧ (s.gen : Int) < n / 4096)) ∨
  (k = 4 ∧ 0 ≤ n ∧ ∃ (i : Nat) (s : Sl), n % 4096 = i ∧ a.slots[i]? = some s ∧ (n / 4096 < s.gen ∨ (n / 4096 = s.gen ∧ s.count = 0)))
theorem FBad.kind {a : Bn} {n k : Int} (h : FBad a n k) : k ≠ 0 ∧ (k = 3 ∨ k = 4) := by rcases h with ⟨h, _⟩ | ⟨h, _⟩ <;> omega
theorem found_any (a : Bn) (n : Int) : (∃ i s, FOk a n i s) ∨ ∃ k, FBad a n k := by
  by_cases h0 : n < 0
  · exact .inr ⟨3, .inl ⟨rfl, .inl h0⟩⟩
  · by_cases h1 : (a.slots.length : Int) ≤ n % 4096
    · exact .inr ⟨3, .inl ⟨rfl, .inr (.inl h1)⟩⟩
    · obtain ⟨i, hi⟩ : ∃ i : Nat, n % 4096 = i := ⟨(n % 4096).toNat, by omega⟩
      have hl : i < a.slots.length := by omega
      have hs : a.slots[i]? = some a.slots[i] := List.getElem?_eq_getElem hl
      by_cases h2 : (a.slots[i].gen : Int) < n / 4096
      · exact .inr ⟨3, .inl ⟨rfl, .inr (.inr ⟨i, _, hi, hs, h2⟩)⟩⟩
      · by_cases h3 : n / 4096 < a.slots[i].gen
        · exact .inr ⟨4, .inr ⟨rfl, by omega, i, _, hi, hs, .inl h3⟩⟩
        · by_cases h4 : a.slots[i].count = 0
          · exact .inr ⟨4, .inr ⟨rfl, by omega, i, _, hi, hs, .inr ⟨by omega, h4⟩⟩⟩
          · exact .inl ⟨i, _, by omega, hi, hs, by omega, by omega⟩

theorem err_k {k : Int} (j : Int) (h : k = j) : Ending.returned (.tuple #[.pointer none, .iface 84 (.int .i64 j)]) = .returned (.tuple #[.pointer none, .iface 84 (.int .i64 k)]) := by rw [h]

set_option maxHeartbeats 1000000 in
theorem find_bad (h : BRep F w b a ss fs ps) (hL : a.slots.length ≤ 4096) (n k : Int) (hnm : -9223372036854775808 ≤ n) (hnM : n ≤ 9223372036854775807) (hbad : FBad a n k) :
    Calls Try.prog 48 #[.pointer (some ⟨b, 0, none⟩), .int .i64 n] w fun e w' => e = .returned (.tuple #[.pointer none, .iface 84 (.int .i64 k)]) ∧ w = w' := by
  obtain ⟨_, _, _, c3, _, _⟩ := h.cells
  by_cases h0 : n < 0
  · have hk : k = 3 := by rcases hbad with ⟨e, _⟩ | ⟨_, e, _⟩ <;> omega
    have Hk := Lib.hid hk
    clear hk hbad h hL
    go_enter Try.func48, Try.ntmps48
    go_wp2
    go_ret2
    exact ⟨err_k 3 Hk.out, rfl⟩
  · have h0' : 0 ≤ n := by omega
    clear h0
    obtain ⟨i, hi⟩ : ∃ i : Nat, n % 4096 = i := ⟨(n % 4096).toNat, by omega⟩
    obtain ⟨po, cap, hv⟩ : ∃ po cap, ss = .slice po a.slots.length cap := by
      rcases h.rs.2 with ⟨e, e0⟩ | ⟨g, cap, _, e, _⟩
      · exact ⟨none, 0, by rw [e, e0]⟩
      · exact ⟨_, cap, e⟩
    obtain ⟨L, hLe, hL1⟩ : ∃ L, a.slots.length = L ∧ L ≤ 4096 := ⟨_, rfl, hL⟩
    by_cases h1 : L ≤ i
    · have hk : k = 3 := by
        rcases hbad with ⟨e, _⟩ | ⟨_, _, i', s, e1, e2, _⟩
        · exact e
        · have := (List.getElem?_eq_some_iff.1 e2).1; omega
      have Hk := Lib.hid hk
      rw [hv, hLe] at c3
      have h1' : (L : Int) ≤ i := by omega
      clear hk hbad h hL hv hLe
      go_enter Try.func48, Try.ntmps48
      go_wp2
      go_ret2
      exact ⟨err_k 3 Hk.out, rfl⟩
    · have hs : a.slots[i]? = some (a.slots[i]'(by omega)) := List.getElem?_eq_getElem (by omega)
      obtain ⟨s, hse⟩ : ∃ s, (a.slots[i]'(by omega)) = s := ⟨_, rfl⟩
      rw [hse] at hs
      obtain ⟨g, cap', v, hv', _, _, d0, d1, d2, _, _, _⟩ := h.slot hs
      obtain ⟨q, hq⟩ : ∃ q, s.gen = q := ⟨_, rfl⟩
      obtain ⟨c, hc⟩ : ∃ c, s.count = c := ⟨_, rfl⟩
      obtain ⟨m, hm, hm0⟩ : ∃ m : Int, n / 4096 = m ∧ 0 ≤ m := ⟨_, rfl, by omega⟩
      have hk : (k = 3 ∧ (q : Int) < m) ∨ (k = 4 ∧ m < q) ∨ (k = 4 ∧ m = q ∧ c = 0) := by
        rcases hbad with ⟨e, e3⟩ | ⟨e, _, i', s', e1, e2, e3⟩
        · rcases e3 with e3 | e3 | ⟨i', s', e1, e2, e3⟩
          · omega
          · omega
          · obtain rfl : i' = i := by omega
            rw [hs] at e2; injection e2 with e2; subst e2
            exact .inl ⟨e, by omega⟩
        · obtain rfl : i' = i := by omega
          rw [hs] at e2; injection e2 with e2; subst e2
          rcases e3 with e3 | ⟨e3, e4⟩
          · exact .inr (.inl ⟨e, by omega⟩)
          · exact .inr (.inr ⟨e, by omega, by omega⟩)
      rw [hv', hLe] at c3
      rw [hq] at d2
      rw [hc] at d1
      have hil : i < L := by omega
      clear hbad h hL hv hLe hs hq hc h1 hse
      rcases hk with ⟨hk, h3⟩ | ⟨hk, h3⟩ | ⟨hk, rfl, rfl⟩
      · have Hk := Lib.hid hk
        clear hk
        go_enter Try.func48, Try.ntmps48
        go_wp2
        go_ret2
        exact ⟨err_k 3 Hk.out, rfl⟩
      · have Hk := Lib.hid hk
        clear hk
        go_enter Try.func48, Try.ntmps48
        go_wp2
        go_ret2
        exact ⟨err_k 4 Hk.out, rfl⟩
      · have Hk := Lib.hid hk
        clear hk
        go_enter Try.func48, Try.ntmps48
        go_wp2
        go_ret2
        exact ⟨err_k 4 Hk.out, rfl⟩
end
end Go.Proofs.Ytlnckpjpoaokjaa
