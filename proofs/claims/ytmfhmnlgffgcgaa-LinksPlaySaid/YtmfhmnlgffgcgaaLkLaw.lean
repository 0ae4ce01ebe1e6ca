/- A net beside the caller's own blocks; the document's example. -/
import Derived.Test.YtmfhmnlgffgcgaaLkEnd
import Derived.Test.YtmfhmnlgffgcgaaPlace
namespace Go.Proofs.Ytmfhmnlgffgcgaa
open Go.RowKit Go.Maps
set_option linter.unusedVariables false

/-- a net, newer than w0; C: blocks of the caller's -/
def NS (w0 : World) (C : Nat → Prop) (w : World) (b : Nat) (ls : List (Int × Int)) (ms : List Mo) (next : Nat) : Prop :=
  ∃ col h, Net w b col h ls ms next ∧ (∀ q, col q ≠ 0 → w0.heap.size ≤ q ∧ ¬ C q) ∧ (∀ q, C q → q < w.heap.size) ∧ Kp (fun _ => False) w0 w
section
variable {C C' D F : Nat → Prop} {w0 w w' : World} {b next next' : Nat} {ls ls' : List (Int × Int)} {ms ms' : List Mo} {a x r : Int} {v : Value} {l : List Int}
theorem NS.kp0 (h : NS w0 C w b ls ms next) : Kp (fun _ => False) w0 w := by obtain ⟨col, h1, -, -, -, h2⟩ := h; exact h2
theorem NS.ok (h : NS w0 C w b ls ms next) : LkOk ls := by obtain ⟨col, h1, h2, -⟩ := h; exact h2.lok
theorem NS.mok (h : NS w0 C w b ls ms next) : MoOk next ms := by obtain ⟨col, h1, h2, -⟩ := h; exact h2.mok
theorem NS.clt (h : NS w0 C w b ls ms next) : ∀ q, C q → q < w.heap.size := by obtain ⟨col, h1, -, -, h2, -⟩ := h; exact h2
/-- other blocks are the caller's: those that were, and new ones -/
theorem NS.put (h : NS w0 C w b ls ms next) (hk : Kp (fun _ => False) w w') (hC : ∀ q, C' q → C q ∨ (w.heap.size ≤ q ∧ q < w'.heap.size)) : NS w0 C' w' b ls ms next := by
  obtain ⟨col, h0, h1, h2, h3, h4⟩ := h
  have hz := hk.size
  refine ⟨col, h0, h1.same hk, fun q hq => ⟨(h2 q hq).1, fun e => ?_⟩, fun q hq => ?_, h4.trans' hk⟩
  · rcases hC q e with e2 | e2
    · exact (h2 q hq).2 e2
    · exact hq (h1.nx.fr q e2.1)
  · rcases hC q hq with e | e
    · have := h3 q e; omega
    · exact e.2
theorem NS.same (h : NS w0 C w b ls ms next) (hk : Kp (fun _ => False) w w') : NS w0 C w' b ls ms next := h.put hk (fun _ e => .inl e)
/-- the caller turns blocks of its own, and makes new ones -/
theorem NS.turn (h : NS w0 C w b ls ms next) (hk : Kp D w w') (hD : ∀ q, D q → C q ∧ w0.heap.size ≤ q) (hC : ∀ q, C' q → C q ∨ (w.heap.size ≤ q ∧ q < w'.heap.size)) : NS w0 C' w' b ls ms next := by
  obtain ⟨col, h0, h1, h2, h3, h4⟩ := h
  have hz := hk.size
  have hn : ∀ q, col q ≠ 0 → ¬ D q := fun q hq e => (h2 q hq).2 (hD q e).1
  have hb : ¬ D b := hn b (by rw [h1.nx.b1]; omega)
  have hx : Nx w' b col h0 (tabs ls ms) ms := ⟨h1.nx.head.kp hk hb, h1.nx.b1, fun k hk2 => (h1.nx.tb k hk2).kp hk (fun q hq => hn q (by omega)), h1.nx.mon.kp hk (fun q hq => hn q (by omega)), fun q hq => h1.nx.fr q (by omega)⟩
  refine ⟨col, h0, ⟨hx, h1.h7, h1.lok, h1.lI, h1.mok, h1.mI, h1.ll, h1.nb⟩, fun q hq => ⟨(h2 q hq).1, fun e => ?_⟩, fun q hq => ?_, h4.trans (hk.mono fun q hq e => .inr ⟨(hD q e).2, hq⟩)⟩
  · rcases hC q e with e2 | e2
    · exact (h2 q hq).2 e2
    · exact hq (h1.nx.fr q e2.1)
  · rcases hC q hq with e | e
    · have := h3 q e; omega
    · exact e.2
/-- a net's way turned it -/
def NsTo (w0 : World) (C : Nat → Prop) (w : World) (b : Nat) (ls : List (Int × Int)) (ms : List Mo) (next : Nat) (v : Value) (e : Ending) (w' : World) : Prop :=
  e = .returned v ∧ NS w0 C w' b ls ms next ∧ Kp (fun q => ¬ C q) w w'
theorem ns_to {e : Ending} {col : Nat → Nat} (h2 : ∀ q, col q ≠ 0 → w0.heap.size ≤ q ∧ ¬ C q) (h3 : ∀ q, C q → q < w.heap.size) (h4 : Kp (fun _ => False) w0 w) (ht : NetTo w b col ls ms next v e w') : NsTo w0 C w b ls ms next v e w' := by
  obtain ⟨he, col', h', h5, h6, h7⟩ := ht
  have hz := h7.size
  have hz0 := h4.size
  refine ⟨he, ⟨col', h', h5, fun q hq => ?_, fun q hq => Nat.lt_of_lt_of_le (h3 q hq) hz, h4.trans (h7.mono fun q hq e => .inr ⟨(h2 q e).1, hq⟩)⟩, h7.mono fun q _ e => (h2 q e).2⟩
  by_cases hl : q < w.heap.size
  · rw [h6 q hl] at hq
    exact h2 q hq
  · exact ⟨by omega, fun e => hl (h3 q e)⟩
/-- a new net -/
theorem ns_new (w : World) (hC : ∀ q, C q → q < w.heap.size) : NS w C (w.alloc (.cells #[.map none, .map none, .map none, .map none, .map none, .map none, .map none, .int .i64 0] 31)) w.heap.size [] [] 0 := by
  have hk : Kp (fun _ => False) w (w.alloc (.cells #[.map none, .map none, .map none, .map none, .map none, .map none, .map none, .int .i64 0] 31)) := (Kp.refl _ w).alloc _
  refine ⟨fun q => if q = w.heap.size then 1 else 0, fun k => if k = 7 then .int .i64 0 else .map none, ⟨⟨heap_alloc_new w _, if_pos rfl, fun k hk2 => .inl ⟨if_neg (by omega), if_neg (by omega), ?_⟩, .inl ⟨if_neg (by omega), rfl⟩, fun q hq => if_neg (by simp at hq; omega)⟩, rfl, ⟨by simp, by simp⟩, by simp, ⟨by simp, by simp⟩, by simp, by simp, by simp⟩, fun q hq => ?_, fun q hq => ?_, hk⟩
  · unfold tabs
    split
    · rfl
    · split <;> rfl
  · have : q = w.heap.size := by
      by_cases e : q = w.heap.size
      · exact e
      · exact absurd (if_neg e) hq
    exact ⟨by omega, fun e => by have := hC q e; omega⟩
  · have := hC q hq
    have := hk.size
    omega
theorem ns_link (h : NS w0 C w b ls ms next) (ha : I64 a) (hx : I64 x) (hl : ls.length + 1 ≤ 8796093022208) : Calls Try.prog 13 #[.pointer (some ⟨b, 0, none⟩), .int .i64 a, .int .i64 x] w (NsTo w0 C w b (addLk ls a x) ms next (.bool (!decide (a = x ∨ lk a x ∈ ls)))) := by
  obtain ⟨col, h0, h1, h2, h3, h4⟩ := h
  exact (net_link h1 ha hx hl).mono fun e w' ht => ns_to h2 h3 h4 ht
theorem ns_unlink (h : NS w0 C w b ls ms next) (ha : I64 a) (hx : I64 x) : Calls Try.prog 14 #[.pointer (some ⟨b, 0, none⟩), .int .i64 a, .int .i64 x] w (NsTo w0 C w b (butPair ls (lk a x)) ms next (.bool (decide (lk a x ∈ ls)))) := by
  obtain ⟨col, h0, h1, h2, h3, h4⟩ := h
  exact (net_unlink h1 ha hx).mono fun e w' ht => ns_to h2 h3 h4 ht
theorem ns_monitor (h : NS w0 C w b ls ms next) (ha : I64 a) (hx : I64 x) (hn : next + 1 ≤ 17592186044415) : Calls Try.prog 8 #[.pointer (some ⟨b, 0, none⟩), .int .i64 a, .int .i64 x] w (NsTo w0 C w b ls (ms ++ [⟨(next : Nat), a, x⟩]) (next + 1) (.int .i64 (next : Nat))) := by
  obtain ⟨col, h0, h1, h2, h3, h4⟩ := h
  exact (net_monitor h1 ha hx hn).mono fun e w' ht => ns_to h2 h3 h4 ht
theorem ns_dem_ok (h : NS w0 C w b ls ms next) (hr : I64 r) {m : Mo} (hm : moOf ms r = some m) : Calls Try.prog 9 #[.pointer (some ⟨b, 0, none⟩), .int .i64 r, .int .i64 m.who] w (NsTo w0 C w b ls (butRef ms r) next .nilIface) := by
  obtain ⟨col, h0, h1, h2, h3, h4⟩ := h
  exact (net_dem_ok h1 hr hm).mono fun e w' ht => ns_to h2 h3 h4 ht
theorem ns_dem_bad (h : NS w0 C w b ls ms next) (hr : I64 r) (who : Int) (hk : demKind ms r who ≠ 0) : Calls Try.prog 9 #[.pointer (some ⟨b, 0, none⟩), .int .i64 r, .int .i64 who] w (EBad w (fun v => v) [Lk.fault ⟨#[100, 101, 109, 111, 110, 105, 116, 111, 114]⟩ (r % 2147483648), Lk.kind (demKind ms r who)]) := by
  obtain ⟨col, h0, h1, h2, h3, h4⟩ := h
  exact net_dem_bad h1 hr who hk
theorem ns_linked (h : NS w0 C w b ls ms next) (ha : I64 a) : Calls Try.prog 18 #[.pointer (some ⟨b, 0, none⟩), .int .i64 a] w (FreshRow w (nbs ls a)) := by
  obtain ⟨col, h0, h1, h2, h3, h4⟩ := h
  exact net_linked h1 ha
theorem ns_watchers (h : NS w0 C w b ls ms next) (ha : I64 a) : Calls Try.prog 11 #[.pointer (some ⟨b, 0, none⟩), .int .i64 a] w (FreshRow w (obs ms a)) := by
  obtain ⟨col, h0, h1, h2, h3, h4⟩ := h
  exact net_watchers h1 ha
theorem ns_watches (h : NS w0 C w b ls ms next) (hr : I64 r) : Calls Try.prog 19 #[.pointer (some ⟨b, 0, none⟩), .int .i64 r] w fun e w' => e = .returned (.tuple #[.int .i64 (whoOf (moOf ms r)), .int .i64 (whomOf (moOf ms r)), .bool (moOf ms r).isSome]) ∧ Kp (fun _ => False) w w' := by
  obtain ⟨col, h0, h1, h2, h3, h4⟩ := h
  exact net_watches h1 hr
theorem ns_len (h : NS w0 C w b ls ms next) : Calls Try.prog 10 #[.pointer (some ⟨b, 0, none⟩)] w fun e w' => e = .returned (.tuple #[.int .i64 (ls.length : Nat), .int .i64 (ms.length : Nat)]) ∧ Kp (fun _ => False) w w' := by
  obtain ⟨col, h0, h1, h2, h3, h4⟩ := h
  exact net_len h1
/-- what End tells are new rows of the caller's -/
def NsEnd (w0 : World) (C : Nat → Prop) (w : World) (b : Nat) (nl ol : List Int) (ls : List (Int × Int)) (ms : List Mo) (next : Nat) (e : Ending) (w' : World) : Prop :=
  ∃ vl vr, e = .returned (.tuple #[vl, vr]) ∧ Lw w' vl nl ∧ Lw w' vr ol ∧ (∀ g, vl.ownBlock = some g → w.heap.size ≤ g) ∧ (∀ g, vr.ownBlock = some g → w.heap.size ≤ g) ∧
    NS w0 (fun q => C q ∨ vl.ownBlock = some q ∨ vr.ownBlock = some q) w' b ls ms next ∧ Kp (fun q => ¬ C q) w w'
theorem ns_end (h : NS w0 C w b ls ms next) (ha : I64 a) : Calls Try.prog 15 #[.pointer (some ⟨b, 0, none⟩), .int .i64 a] w (NsEnd w0 C w b (nbs ls a) (obs ms a) (endLs ls a) (endMs ms a) next) := by
  obtain ⟨col, h0, h1, h2, h3, h4⟩ := h
  refine (net_end h1 ha).mono ?_
  rintro e w' ⟨vl, vr, col', rfl, ⟨⟨h', h5⟩, ⟨l1, l2⟩, ⟨r1, r2⟩, h6, h7⟩, l3, r3⟩
  have hz := h7.size
  have hz0 := h4.size
  refine ⟨vl, vr, rfl, l1, r1, l3, r3, ⟨col', h', h5, fun q hq => ?_, fun q hq => ?_, h4.trans (h7.mono fun q hq e => .inr ⟨(h2 q e).1, hq⟩)⟩, h7.mono fun q _ e => (h2 q e).2⟩
  · have hne : ¬ (vl.ownBlock = some q ∨ vr.ownBlock = some q) := fun e => e.elim (fun e => hq (l2 q e)) (fun e => hq (r2 q e))
    by_cases hl : q < w.heap.size
    · have hq' := hq
      rw [h6 q hl] at hq'
      exact ⟨(h2 q hq').1, fun e => e.elim (h2 q hq').2 hne⟩
    · exact ⟨by omega, fun e => e.elim (fun e => hl (h3 q e)) hne⟩
  · rcases hq with e | e | e
    · exact Nat.lt_of_lt_of_le (h3 q e) hz
    · exact l1.lt q e
    · exact r1.lt q e
def noLk : Nat → Prop := fun _ => False
theorem lit_row (w : World) (x : Int) : Lr (w.alloc (.cells #[.int .i64 x] 2)) (.slice (some ⟨w.heap.size, 0, none⟩) 1 1) [x] :=
  ⟨some ⟨w.heap.size, 0, none⟩, 1, rfl, by simp, by unfold maxLen; omega, fun i y hi => by
    have : i = 0 := by
      have := (List.getElem?_eq_some_iff.1 hi).1
      simp at this
      omega
    subst this
    simp at hi
    subst hi
    exact ⟨w.heap.size, 0, rfl, by rw [cell_of_row _ w.heap.size 0 _ _ _ (heap_alloc_new w _)]; rfl⟩⟩
set_option maxRecDepth 100000 in
set_option maxHeartbeats 4000000 in
/-- the document's example -/
theorem lkAwake_any (w : World) : Calls Try.prog 12 #[] w fun e w' => e = .returned (.bool true) ∧ Kp (fun _ => False) w w' := by
  have HN := Lib.hid (ns_new (C := noLk) w (fun _ e => e.elim))
  have i1 : I64 1 := by unfold I64; omega
  have i2 : I64 2 := by unfold I64; omega
  have i3 : I64 3 := by unfold I64; omega
  have HL := Lib.hid (show Calls Try.prog 13 #[.pointer (some ⟨w.heap.size, 0, none⟩), .int .i64 1, .int .i64 2] _ (NsTo w noLk _ _ [(1, 2)] [] 0 (.bool true)) from ns_link HN.out i1 i2 (by simp))
  clear HN
  go_enter Try.func12, Try.ntmps12
  go_wp2_with fail
  refine HL.out.mono ?_
  rintro e w1 ⟨rfl, h1, -⟩
  have HL2 := Lib.hid (show Calls Try.prog 13 #[.pointer (some ⟨w.heap.size, 0, none⟩), .int .i64 2, .int .i64 1] w1 (NsTo w noLk w1 _ [(1, 2)] [] 0 (.bool false)) from ns_link h1 i2 i1 (by simp))
  clear HL h1
  go_wp2_with fail
  refine HL2.out.mono ?_
  rintro e w2 ⟨rfl, h2, -⟩
  have HM := Lib.hid (show Calls Try.prog 8 #[.pointer (some ⟨w.heap.size, 0, none⟩), .int .i64 3, .int .i64 1] w2 (NsTo w noLk w2 _ [(1, 2)] [⟨0, 3, 1⟩] 1 (.int .i64 0)) from ns_monitor h2 i3 i1 (by omega))
  clear HL2 h2
  go_wp2_with fail
  refine HM.out.mono ?_
  rintro e w3 ⟨rfl, h3, -⟩
  have e1 : nbs [(1, 2)] 1 = [2] := by simp [nbs, both, colOf, srt]
  have e2 : obs [⟨0, 3, 1⟩] 1 = [0] := by simp [obs, byWhom, colOf, srt]
  have HE := Lib.hid (ns_end h3 i1)
  rw [e1, e2] at HE
  clear HM h3 e1 e2
  go_wp2_with fail
  refine HE.out.mono ?_
  rintro e w4 ⟨vl, vr, rfl, l1, r1, -, -, h4, -⟩
  have HS1 := Lib.hid (sameLongs_any (l1.rd.same ((Kp.refl (fun _ => False) w4).alloc _)) (lit_row w4 2))
  have HR := Lib.hid (And.intro r1 h4.kp0)
  clear HE l1 r1 h4 i1 i2 i3
  go_wp2_with fail
  refine HS1.out.mono ?_
  rintro e w5 ⟨rfl, k, hk⟩
  have k5 : Kp (fun _ => False) w4 w5 := by rw [hk]; exact kp_drewN ((Kp.refl _ w4).alloc _) k
  have HS2 := Lib.hid (sameLongs_any ((HR.out.1.same k5).rd.same ((Kp.refl (fun _ => False) w5).alloc _)) (lit_row w5 0))
  have HK := Lib.hid (HR.out.2.trans' k5)
  clear HS1 hk k5
  go_wp2_with fail
  refine HS2.out.mono ?_
  rintro e w6 ⟨rfl, k6, hk6⟩
  have HK6 : Hid (Kp (fun _ => False) w w6) := Lib.hid (HK.out.trans' (by rw [hk6]; exact kp_drewN ((Kp.refl _ w5).alloc _) k6))
  clear hk6
  go_wp2_with fail
  go_ret
  exact ⟨rfl, HK6.out⟩
end
end Go.Proofs.Ytmfhmnlgffgcgaa
