/- Both wheels side by side: what each call makes of them. -/
import Derived.Test.YtmekhijmghddiaaWhRef6
import Derived.Test.YtmekhijmghddiaaWhIds
import Derived.Test.YtmekhijmghddiaaWhUse
namespace Go.Proofs.Ytmekhijmghddiaa
open Go.RowKit

/-- the wheel and the document's own wheel, both newer than w0; C: blocks that neither has -/
def PSr (w0 : World) (C : Nat → Prop) (w : World) (b1 b2 most n1 f1 : Nat) (ts1 : List Tm) (n2 f2 : Nat) (ts2 : List Tm) : Prop :=
  ∃ G1 G2, WhG w G1 b1 most n1 f1 ts1 ∧ RW w G2 b2 most n2 f2 ts2 ∧ (∀ q, G1 q → ¬ G2 q) ∧ (∀ q, G1 q → w0.heap.size ≤ q) ∧ (∀ q, G2 q → w0.heap.size ≤ q) ∧ Kp (fun _ => False) w0 w ∧ ∀ q, C q → ¬ G1 q ∧ ¬ G2 q ∧ q < w.heap.size

section
variable {C C' : Nat → Prop} {v : Value} {l : List Int} {G1 G2 : Nat → Prop} {w0 w w' : World} {b1 b2 most n1 f1 n2 f2 : Nat} {ts1 ts2 : List Tm} {id : Int} {t : Tm}
theorem whg_lt (h : WhG w G1 b1 most n1 f1 ts1) : ∀ q, G1 q → q < w.heap.size := by obtain ⟨F, mb, ch, h1, h2, h3⟩ := h; exact h3
/-- other blocks are the caller's: those that were, and new ones -/
theorem PSr.put (h : PSr w0 C w b1 b2 most n1 f1 ts1 n2 f2 ts2) (hk : Kp (fun _ => False) w w') (hC : ∀ q, C' q → C q ∨ (w.heap.size ≤ q ∧ q < w'.heap.size)) : PSr w0 C' w' b1 b2 most n1 f1 ts1 n2 f2 ts2 := by
  obtain ⟨G1, G2, h1, h2, h3, h4, h5, h6, h7⟩ := h
  have hz := hk.size
  refine ⟨G1, G2, h1.kp hk (fun _ _ e => e), h2.same hk, h3, h4, h5, h6.trans' hk, fun q hq => ?_⟩
  rcases hC q hq with e | e
  · obtain ⟨k1, k2, k3⟩ := h7 q e
    exact ⟨k1, k2, by omega⟩
  · exact ⟨fun e2 => by have := whg_lt h1 q e2; omega, fun e2 => by have := h2.lt q e2; omega, e.2⟩
theorem PSr.same (h : PSr w0 C w b1 b2 most n1 f1 ts1 n2 f2 ts2) (hk : Kp (fun _ => False) w w') : PSr w0 C w' b1 b2 most n1 f1 ts1 n2 f2 ts2 := h.put hk (fun _ e => .inl e)
/-- the first wheel is turned -/
theorem ps_one {G1' : Nat → Prop} {n1' f1' : Nat} {ts1' : List Tm} (h2 : RW w G2 b2 most n2 f2 ts2) (h3 : ∀ q, G1 q → ¬ G2 q) (h4 : ∀ q, G1 q → w0.heap.size ≤ q) (h5 : ∀ q, G2 q → w0.heap.size ≤ q) (h6 : Kp (fun _ => False) w0 w)
    (h7 : ∀ q, C q → ¬ G1 q ∧ ¬ G2 q ∧ q < w.heap.size) (hW : WhG w' G1' b1 most n1' f1' ts1') (hG : ∀ q, G1' q → G1 q ∨ w.heap.size ≤ q) (hk : Kp G1 w w') : PSr w0 C w' b1 b2 most n1' f1' ts1' n2 f2 ts2 ∧ Kp (fun q => ¬ C q) w w' := by
  have hz := h6.size
  have hz' := hk.size
  refine ⟨⟨G1', G2, hW, h2.kp hk (fun q hq e => h3 q e hq), fun q hq e => ?_, fun q hq => ?_, h5, h6.trans (hk.mono fun q hq e => .inr ⟨h4 q e, hq⟩), fun q hq => ⟨fun e => ?_, (h7 q hq).2.1, by have := (h7 q hq).2.2; omega⟩⟩, hk.mono fun q _ e e2 => (h7 q e2).1 e⟩
  · rcases hG q hq with e2 | e2
    · exact h3 q e2 e
    · have := h2.lt q e; omega
  · rcases hG q hq with e2 | e2
    · exact h4 q e2
    · omega
  · rcases hG q e with e2 | e2
    · exact (h7 q hq).1 e2
    · have := (h7 q hq).2.2; omega
/-- the second wheel is turned -/
theorem ps_two {n2' f2' : Nat} {ts2' : List Tm} (h1 : WhG w G1 b1 most n1 f1 ts1) (h3 : ∀ q, G1 q → ¬ G2 q) (h4 : ∀ q, G1 q → w0.heap.size ≤ q) (h5 : ∀ q, G2 q → w0.heap.size ≤ q) (h6 : Kp (fun _ => False) w0 w)
    (h7 : ∀ q, C q → ¬ G1 q ∧ ¬ G2 q ∧ q < w.heap.size) (hR : RGo G2 w b2 most n2' f2' ts2' w') : PSr w0 C w' b1 b2 most n1 f1 ts1 n2' f2' ts2' ∧ Kp (fun q => ¬ C q) w w' := by
  obtain ⟨G2', hR, hG, hk⟩ := hR
  have hz := h6.size
  have hz' := hk.size
  refine ⟨⟨G1, G2', h1.kp hk h3, hR, fun q hq e => ?_, h4, fun q hq => ?_, h6.trans (hk.mono fun q hq e => .inr ⟨h5 q e, hq⟩), fun q hq => ⟨(h7 q hq).1, fun e => ?_, by have := (h7 q hq).2.2; omega⟩⟩, hk.mono fun q _ e e2 => (h7 q e2).2.1 e⟩
  · rcases hG q e with e2 | e2
    · exact h3 q hq e2
    · have := whg_lt h1 q hq; omega
  · rcases hG q hq with e2 | e2
    · exact h5 q e2
    · omega
  · rcases hG q e with e2 | e2
    · exact (h7 q hq).2.1 e2
    · have := (h7 q hq).2.2; omega

theorem p1_start (h : PSr w0 C w b1 b2 most n1 f1 ts1 n2 f2 ts2) (n : Nat) (wht : Int) (hn : n ≤ 1073741824) (hnow : n1 + 1073741824 ≤ 2305843009213693952) (hfr : f1 + 1 ≤ 4611686018427387904) (hf : ts1.length < most) (hm : most ≤ 4096) :
    Calls Try.prog 14 #[.pointer (some ⟨b1, 0, none⟩), .int .i64 (n : Nat), .int .i64 wht] w (fun e w' => e = .returned (.tuple #[.int .i64 (f1 : Nat), .nilIface]) ∧ ∃ t : Tm, (t.id = f1 ∧ t.due = n1 + n ∧ t.wht = wht) ∧ PSr w0 C w' b1 b2 most n1 (f1 + 1) (ts1 ++ [t]) n2 f2 ts2 ∧ Kp (fun q => ¬ C q) w w') := by
  obtain ⟨G1, G2, h1, h2, h3, h4, h5, h6, h7⟩ := h
  refine (g_start h1 n wht hn hnow hfr hf hm).mono ?_
  rintro e w' ⟨rfl, g, hW, hk⟩
  exact ⟨rfl, _, ⟨rfl, rfl, rfl⟩, ps_one h2 h3 h4 h5 h6 h7 hW (fun q hq => hq.imp id (fun e => e.1)) hk⟩
theorem p2_start (h : PSr w0 C w b1 b2 most n1 f1 ts1 n2 f2 ts2) (n : Nat) (wht : Int) (hn : n ≤ 1073741824) (hnow : n2 + 1073741824 ≤ 2305843009213693952) (hfr : f2 + 1 ≤ 4611686018427387904) (hf : ts2.length < most) (hm : most ≤ 4096) (t : Tm) (ht : t.id = f2 ∧ t.due = n2 + n ∧ t.wht = wht) :
    Calls Try.prog 15 #[.pointer (some ⟨b2, 0, none⟩), .int .i64 (n : Nat), .int .i64 wht] w (fun e w' => e = .returned (.tuple #[.int .i64 (f2 : Nat), .pointer none]) ∧ PSr w0 C w' b1 b2 most n1 f1 ts1 n2 (f2 + 1) (ts2 ++ [t]) ∧ Kp (fun q => ¬ C q) w w') := by
  obtain ⟨G1, G2, h1, h2, h3, h4, h5, h6, h7⟩ := h
  refine (xstart_ok h2 n wht hn hnow hfr hf hm t ht).mono ?_
  rintro e w' ⟨rfl, hR⟩
  exact ⟨rfl, ps_two h1 h3 h4 h5 h6 h7 hR⟩
theorem p1_cancel (h : PSr w0 C w b1 b2 most n1 f1 ts1 n2 f2 ts2) (hid : (Lit.int .i64 id).wf = true) (ht : tmOf ts1 id = some t) :
    Calls Try.prog 16 #[.pointer (some ⟨b1, 0, none⟩), .int .i64 id] w (fun e w' => e = .returned (.tuple #[.int .i64 ((t.due - n1 : Nat) : Int), .nilIface]) ∧ PSr w0 C w' b1 b2 most n1 f1 (without ts1 id) n2 f2 ts2 ∧ Kp (fun q => ¬ C q) w w') := by
  obtain ⟨G1, G2, h1, h2, h3, h4, h5, h6, h7⟩ := h
  refine (g_cancel h1 hid ht).mono ?_
  rintro e w' ⟨rfl, hW, hk⟩
  exact ⟨rfl, ps_one h2 h3 h4 h5 h6 h7 hW (fun q hq => .inl hq) hk⟩
/-- what is known of the timers of a wheel -/
structure TmsOk (most now fresh : Nat) (ts : List Tm) : Prop where
  nd : (ts.map Tm.id).Nodup
  ge : ∀ t ∈ ts, now ≤ t.due ∧ t.due ≤ 2305843009213693952
  ids : ∀ t ∈ ts, t.id < fresh
  fr : fresh ≤ 4611686018427387904
theorem PSr.ok (h : PSr w0 C w b1 b2 most n1 f1 ts1 n2 f2 ts2) : TmsOk most n1 f1 ts1 := by
  obtain ⟨G1, G2, ⟨F, mb, ch, h1, -⟩, -⟩ := h
  exact ⟨h1.nodup, fun t ht => ⟨h1.le t ht, h1.dueB t ht⟩, h1.ids, h1.freshB⟩
theorem p2_cancel (h : PSr w0 C w b1 b2 most n1 f1 ts1 n2 f2 ts2) (hok : TmsOk most n2 f2 ts2) (hlen : ts2.length ≤ 4096) (ht : tmOf ts2 id = some t) :
    Calls Try.prog 17 #[.pointer (some ⟨b2, 0, none⟩), .int .i64 id] w (fun e w' => e = .returned (.tuple #[.int .i64 ((t.due - n2 : Nat) : Int), .pointer none]) ∧ PSr w0 C w' b1 b2 most n1 f1 ts1 n2 f2 (without ts2 id) ∧ Kp (fun q => ¬ C q) w w') := by
  obtain ⟨G1, G2, h1, h2, h3, h4, h5, h6, h7⟩ := h
  refine (xcancel_any h2 hok.nd hok.ge hlen id).mono ?_
  rintro e w' (⟨t', ht', rfl, hR⟩ | ⟨hno, -⟩)
  · rw [ht] at ht'
    obtain rfl := Option.some.inj ht'
    exact ⟨rfl, ps_two h1 h3 h4 h5 h6 h7 hR⟩
  · rw [ht] at hno; cases hno
theorem p2_cancel_none (h : PSr w0 C w b1 b2 most n1 f1 ts1 n2 f2 ts2) (hok : TmsOk most n2 f2 ts2) (hlen : ts2.length ≤ 4096) (ht : tmOf ts2 id = none) :
    Calls Try.prog 17 #[.pointer (some ⟨b2, 0, none⟩), .int .i64 id] w (XBad w (fun v => .tuple #[.int .i64 0, v]) [Lk.fault ⟨#[99, 97, 110, 99, 101, 108]⟩ (id % 2147483648), Lk.kind 3]) := by
  obtain ⟨G1, G2, h1, h2, h3, h4, h5, h6, h7⟩ := h
  refine (xcancel_any h2 hok.nd hok.ge hlen id).mono ?_
  rintro e w' (⟨t', ht', -⟩ | ⟨hno, hx⟩)
  · rw [ht] at ht'; cases ht'
  · exact hx
theorem p2_get (h : PSr w0 C w b1 b2 most n1 f1 ts1 n2 f2 ts2) (op : ByteArray) (id : Int) : Calls Try.prog 19 #[.pointer (some ⟨b2, 0, none⟩), .string op, .int .i64 id] w (GetIs ts2 op id w) := by
  obtain ⟨G1, G2, h1, h2, h3, h4, h5, h6, h7⟩ := h
  exact xget_any h2 op id
theorem p1_tick (h : PSr w0 C w b1 b2 most n1 f1 ts1 n2 f2 ts2) (n : Int) (hn1 : -9223372036854775808 ≤ n) (hn2 : n ≤ 9223372036854775807) (hend : n1 + 1048576 ≤ 2305843009213693952) (hlen : ts1.length ≤ 17592186044416) :
    Calls Try.prog 22 #[.pointer (some ⟨b1, 0, none⟩), .int .i64 n] w (fun e w' => ∃ v o ts', e = .returned v ∧ DueBy ts1 (n1 + ticksOf n) o ts' ∧ Lw w' v (idsOf o) ∧ PSr w0 (fun q => C q ∨ v.ownBlock = some q) w' b1 b2 most (n1 + ticksOf n) f1 ts' n2 f2 ts2 ∧ Kp (fun q => ¬ C q) w w') := by
  obtain ⟨G1, G2, h1, h2, h3, h4, h5, h6, h7⟩ := h
  refine (g_tick h1 n hn1 hn2 hend hlen).mono ?_
  rintro e w' ⟨v, o, ts', rfl, hl, hn, hd, hW, hk⟩
  obtain ⟨⟨-, -, -, -, -, -, -, a6, -⟩, hkC⟩ := ps_one h2 h3 h4 h5 h6 h7 hW (fun q hq => .inl hq) hk
  have hz := hk.size
  refine ⟨v, o, ts', rfl, hd, hl, ⟨G1, G2, hW, h2.kp hk (fun q hq e => h3 q e hq), h3, h4, h5, a6, fun q hq => ?_⟩, hkC⟩
  rcases hq with hq | hq
  · obtain ⟨k1, k2, k3⟩ := h7 q hq
    exact ⟨k1, k2, by omega⟩
  · exact ⟨fun e => by have := whg_lt h1 q e; have := hn q hq; omega, fun e => by have := h2.lt q e; have := hn q hq; omega, hl.lt q hq⟩
theorem p2_tick (h : PSr w0 C w b1 b2 most n1 f1 ts1 n2 f2 ts2) (hok : TmsOk most n2 f2 ts2) (hlen : ts2.length ≤ 4096) (n : Int) (hend : n2 + 1048576 ≤ 2305843009213693952) :
    Calls Try.prog 24 #[.pointer (some ⟨b2, 0, none⟩), .int .i64 n] w (fun e w' => ∃ u o ts', e = .returned u ∧ DueBy ts2 (n2 + ticksOf n) o ts' ∧ w'.ownsS 46 3 u o.length (qcells o) ∧ PSr w0 C w' b1 b2 most n1 f1 ts1 (n2 + ticksOf n) f2 ts' ∧ Kp (fun q => ¬ C q) w w') := by
  obtain ⟨G1, G2, h1, h2, h3, h4, h5, h6, h7⟩ := h
  refine (xtick_any h2 hok.nd (fun t ht => ⟨(hok.ge t ht).2, by have := hok.ids t ht; have := hok.fr; omega⟩) n hend hlen).mono ?_
  rintro e w' ⟨u, o, ts', rfl, ho, hn, hd, hR⟩
  exact ⟨u, o, ts', rfl, hd, ho, ps_two h1 h3 h4 h5 h6 h7 hR⟩
theorem p1_full (h : PSr w0 C w b1 b2 most n1 f1 ts1 n2 f2 ts2) (n wht : Int) (h0 : 0 ≤ n) (h9 : n ≤ 1073741824) (hf : ts1.length = most) :
    Calls Try.prog 14 #[.pointer (some ⟨b1, 0, none⟩), .int .i64 n, .int .i64 wht] w (EBad w (fun v => .tuple #[.int .i64 (-1), v]) [Lk.fault ⟨#[115, 116, 97, 114, 116]⟩ n, Lk.kind 2]) := by
  obtain ⟨G1, G2, h1, -⟩ := h
  exact g_start_full h1 n wht h0 h9 hf
theorem p2_full (h : PSr w0 C w b1 b2 most n1 f1 ts1 n2 f2 ts2) (n wht : Int) (h0 : 0 ≤ n) (h9 : n ≤ 1073741824) (hf : ts2.length = most) :
    Calls Try.prog 15 #[.pointer (some ⟨b2, 0, none⟩), .int .i64 n, .int .i64 wht] w (XBad w (fun v => .tuple #[.int .i64 (-1), v]) [Lk.fault ⟨#[115, 116, 97, 114, 116]⟩ n, Lk.kind 2]) := by
  obtain ⟨G1, G2, -, h2, -⟩ := h
  exact xstart_full h2 n wht h0 h9 hf
theorem p1_cancel_none (h : PSr w0 C w b1 b2 most n1 f1 ts1 n2 f2 ts2) (hid : (Lit.int .i64 id).wf = true) (ht : tmOf ts1 id = none) :
    Calls Try.prog 16 #[.pointer (some ⟨b1, 0, none⟩), .int .i64 id] w (EBad w (fun v => .tuple #[.int .i64 0, v]) [Lk.fault ⟨#[99, 97, 110, 99, 101, 108]⟩ (id % 2147483648), Lk.kind 3]) := by
  obtain ⟨G1, G2, h1, -⟩ := h
  exact g_cancel_none h1 hid ht
theorem p1_left (h : PSr w0 C w b1 b2 most n1 f1 ts1 n2 f2 ts2) (hid : (Lit.int .i64 id).wf = true) (ht : tmOf ts1 id = some t) :
    Calls Try.prog 18 #[.pointer (some ⟨b1, 0, none⟩), .int .i64 id] w (LeftIs (t.due - n1) w) := by
  obtain ⟨G1, G2, h1, -⟩ := h
  exact g_left h1 hid ht
theorem p1_left_none (h : PSr w0 C w b1 b2 most n1 f1 ts1 n2 f2 ts2) (hid : (Lit.int .i64 id).wf = true) (ht : tmOf ts1 id = none) :
    Calls Try.prog 18 #[.pointer (some ⟨b1, 0, none⟩), .int .i64 id] w (EBad w (fun v => .tuple #[.int .i64 0, v]) [Lk.fault ⟨#[108, 101, 102, 116]⟩ (id % 2147483648), Lk.kind 3]) := by
  obtain ⟨G1, G2, h1, -⟩ := h
  exact g_left_none h1 hid ht
theorem p1_what (h : PSr w0 C w b1 b2 most n1 f1 ts1 n2 f2 ts2) (hid : (Lit.int .i64 id).wf = true) (ht : tmOf ts1 id = some t) :
    Calls Try.prog 20 #[.pointer (some ⟨b1, 0, none⟩), .int .i64 id] w fun e w' => e = .returned (.tuple #[.int .i64 t.wht, .nilIface]) ∧ w = w' := by
  obtain ⟨G1, G2, h1, -⟩ := h
  exact g_what h1 hid ht
theorem p1_what_none (h : PSr w0 C w b1 b2 most n1 f1 ts1 n2 f2 ts2) (hid : (Lit.int .i64 id).wf = true) (ht : tmOf ts1 id = none) :
    Calls Try.prog 20 #[.pointer (some ⟨b1, 0, none⟩), .int .i64 id] w (EBad w (fun v => .tuple #[.int .i64 0, v]) [Lk.fault ⟨#[119, 104, 97, 116]⟩ (id % 2147483648), Lk.kind 3]) := by
  obtain ⟨G1, G2, h1, -⟩ := h
  exact g_what_none h1 hid ht
theorem p1_now (h : PSr w0 C w b1 b2 most n1 f1 ts1 n2 f2 ts2) : Calls Try.prog 25 #[.pointer (some ⟨b1, 0, none⟩)] w fun e w' => e = .returned (.int .i64 (n1 : Nat)) ∧ w = w' := by
  obtain ⟨G1, G2, h1, -⟩ := h
  exact g_now h1
theorem p1_len (h : PSr w0 C w b1 b2 most n1 f1 ts1 n2 f2 ts2) : Calls Try.prog 26 #[.pointer (some ⟨b1, 0, none⟩)] w fun e w' => e = .returned (.int .i64 (ts1.length : Nat)) ∧ w = w' := by
  obtain ⟨G1, G2, h1, -⟩ := h
  exact g_len h1
theorem p2_cells (h : PSr w0 C w b1 b2 most n1 f1 ts1 n2 f2 ts2) : w.cell? ⟨b2, 1, none⟩ = some (.int .i64 (n2 : Nat)) ∧ ∃ po cap, w.cell? ⟨b2, 3, none⟩ = some (.slice po ts2.length cap) := by
  obtain ⟨G1, G2, -, ⟨u, k1, k2, -⟩, -⟩ := h
  obtain ⟨-, c1, -, c3, -⟩ := rw_facts k1
  obtain ⟨po, cap, rfl, -⟩ := ownsS_form k2
  exact ⟨c1, po, cap, c3⟩
/-- both made -/
theorem ps_new (w0 : World) {w1 : World} (most : Nat) (hk0 : Kp (fun _ => False) w0 w) (h1 : WhG w G1 b1 most 0 0 []) (hG : ∀ q, G1 q → w0.heap.size ≤ q) (hk : Kp (fun _ => False) w w1) (h2 : RW w1 G2 b2 most 0 0 []) (hG2 : ∀ q, G2 q → w.heap.size ≤ q) : PSr w0 (fun _ => False) w1 b1 b2 most 0 0 [] 0 0 [] := by
  have hz := hk0.size
  refine ⟨G1, G2, h1.kp hk (fun _ _ e => e), h2, fun q hq e => ?_, hG, fun q hq => ?_, hk0.trans' hk, fun q e => e.elim⟩
  · have := whg_lt h1 q hq; have := hG2 q e; omega
  · have := hG2 q hq; omega
theorem PSr.kp0 (h : PSr w0 C w b1 b2 most n1 f1 ts1 n2 f2 ts2) : Kp (fun _ => False) w0 w := by
  obtain ⟨G1, G2, h1, h2, h3, h4, h5, h6, h7⟩ := h
  exact h6
end
end Go.Proofs.Ytmekhijmghddiaa
