/- The document's own heap of binaries, as it lies in memory, over the same plain data. The document's own heap of binaries: New, Used, find, Keep, Get, Part, Handles. New of a heap, of the document's own, and of both with their atoms and binaries. -/
import Derived.Test.YtkcmfldcdokobaaGreatDoorM20
/- The document's own heap of binaries, as it lies in memory, over the same plain data. -/
namespace Go.Proofs.YtkcmfldcdokobaaGreatDoor
open Go.RowKit

/-- how often a slot was given -/
def Sl.given (s : Sl) : Nat := if s.count = 0 then s.gen else s.gen + 1

structure XRep (F : Nat → Prop) (w : World) (b : Nat) (a : Bn) (ss fs : Value) (ps : List (Value × Value × Value)) : Prop where
  inF : F b
  lt : ∀ k, F k → k < w.heap.size
  hb : w.heap[b]? = some (.cells #[.int .i64 a.most, .int .i64 a.room, ss, fs] 197 (0, 0))
  rs : w.ownsRow 0 319 3 ss a.slots.length (t3 ps)
  rf : w.ownsRow 0 3 1 fs a.free.length (nats a.free.reverse)
  fS : ∀ g, ss.ownBlock = some g → F g
  fF : ∀ g, fs.ownBlock = some g → F g
  el : ∀ (i : Nat) (s : Sl), a.slots[i]? = some s → ∃ v, ps[i]? = some (.int .i64 s.given, .int .i64 s.count, v) ∧ BytesAt (Byt F w) w s.bs v

def XAt (F : Nat → Prop) (w : World) (b : Nat) (a : Bn) : Prop := ∃ ss fs ps, XRep F w b a ss fs ps
def XGo (F : Nat → Prop) (w : World) (b : Nat) (a' : Bn) (w' : World) : Prop := Kp F w w' ∧ ∃ F', New F w F' ∧ XAt F' w' b a'

section
variable {F G : Nat → Prop} {w w' w3 : World} {b : Nat} {a : Bn} {ss fs : Value} {ps : List (Value × Value × Value)}

theorem XRep.len (h : XRep F w b a ss fs ps) : ps.length = a.slots.length := by
  have := h.rs.1
  rw [t3_len] at this
  omega
theorem XRep.kp (h : XRep F w b a ss fs ps) (hk : Kp G w w') (hd : ∀ q, F q → ¬ G q) : XRep F w' b a ss fs ps :=
  ⟨h.inF, fun k e => Nat.lt_of_lt_of_le (h.lt k e) hk.size, (hk.block b (h.lt b h.inF) (hd b h.inF)).trans h.hb, hk.row h.rs (fun g hg => hd g (h.fS g hg)), hk.row h.rf (fun g hg => hd g (h.fF g hg)), h.fS, h.fF,
    fun i s hs => by
      obtain ⟨v, h1, h2⟩ := h.el i s hs
      exact ⟨v, h1, byt_kp h2 hk (fun q hF hG _ _ => hd q hF hG)⟩⟩
theorem XRep.more (h : XRep F w b a ss fs ps) (hFG : ∀ k, F k → G k) (hlt : ∀ k, G k → k < w.heap.size) : XRep G w b a ss fs ps :=
  ⟨hFG b h.inF, hlt, h.hb, h.rs, h.rf, fun g hg => hFG g (h.fS g hg), fun g hg => hFG g (h.fF g hg), fun i s hs => by
      obtain ⟨v, h1, h2⟩ := h.el i s hs
      exact ⟨v, h1, byt_more h2 hFG⟩⟩
theorem XAt.kp (h : XAt F w b a) (hk : Kp G w w') (hd : ∀ q, F q → ¬ G q) : XAt F w' b a := by obtain ⟨_, _, _, h⟩ := h; exact ⟨_, _, _, h.kp hk hd⟩
theorem XAt.lt (h : XAt F w b a) : ∀ q, F q → q < w.heap.size := by obtain ⟨_, _, _, h⟩ := h; exact h.lt
theorem XRep.neS (h : XRep F w b a ss fs ps) {g : Nat} (hg : ss.ownBlock = some g) : g ≠ b := by
  obtain ⟨_, _, _, e, _⟩ := row_blk h.rs hg
  exact blk_ne e h.hb (by decide)
theorem XRep.neF (h : XRep F w b a ss fs ps) {g : Nat} (hg : fs.ownBlock = some g) : g ≠ b := by
  obtain ⟨_, _, _, e, _⟩ := row_blk h.rf hg
  exact blk_ne e h.hb (by decide)
theorem XRep.neSF (h : XRep F w b a ss fs ps) {g g' : Nat} (hg : ss.ownBlock = some g) (hg' : fs.ownBlock = some g') : g ≠ g' := by
  obtain ⟨_, _, _, e, _⟩ := row_blk h.rs hg
  obtain ⟨_, _, _, e', _⟩ := row_blk h.rf hg'
  exact blk_ne e e' (by decide)
theorem XRep.cells (h : XRep F w b a ss fs ps) : w.cell? ⟨b, 0, none⟩ = some (.int .i64 a.most) ∧ w.cell? ⟨b, 1, none⟩ = some (.int .i64 a.room) ∧ w.cell? ⟨b, 2, none⟩ = some ss ∧
    w.cell? ⟨b, 3, none⟩ = some fs ∧ ∀ j, w.frozen? ⟨b, j, none⟩ = false :=
  ⟨by rw [cell_of h.hb]; rfl, by rw [cell_of h.hb]; rfl, by rw [cell_of h.hb]; rfl, by rw [cell_of h.hb]; rfl, fun j => frozen_of h.hb j⟩

theorem XRep.slot (h : XRep F w b a ss fs ps) {i : Nat} {s : Sl} (hs : a.slots[i]? = some s) :
    ∃ g cap v, ss = .slice (some ⟨g, 0, none⟩) a.slots.length cap ∧ ps[i]? = some (.int .i64 s.given, .int .i64 s.count, v) ∧ BytesAt (Byt F w) w s.bs v ∧
      w.cell? ⟨g, i * 3, none⟩ = some (.int .i64 s.given) ∧ w.cell? ⟨g, i * 3 + 1, none⟩ = some (.int .i64 s.count) ∧ w.cell? ⟨g, i * 3 + 2, none⟩ = some v ∧ (∀ j, w.frozen? ⟨g, j, none⟩ = false) ∧ F g ∧ g ≠ b := by
  have hil := (List.getElem?_eq_some_iff.1 hs).1
  obtain ⟨v, h1, h2⟩ := h.el i s hs
  obtain ⟨g, cap, hv, _, _⟩ := h.rs.form (by omega)
  have hg : ss.ownBlock = some g := by rw [hv]; rfl
  have hrs := h.rs
  rw [hv] at hrs
  have h3 := t3_get ps i _ h1
  exact ⟨g, cap, v, hv, h1, h2, by rw [hrs.cellAt _ (by omega)]; exact h3.1, by rw [hrs.cellAt _ (by omega)]; exact h3.2.1, by rw [hrs.cellAt _ (by omega)]; exact h3.2.2, fun j => hrs.frozenAt j, h.fS g hg, h.neS hg⟩

theorem XRep.setSlot (h : XRep F w b a ss fs ps) {i : Nat} {s s' : Sl} {v : Value} {c0 c1 : Value} (hs : a.slots[i]? = some s) {g n cap : Nat} (hv : ss = .slice (some ⟨g, 0, none⟩) n cap) (hp : ps[i]? = some (c0, c1, v))
    (j : Nat) (u v' : Value) (hj : (t3 ps).set j u = t3 (ps.set i (.int .i64 s'.given, .int .i64 s'.count, v'))) (hb' : BytesAt (Byt F w) w s'.bs v') :
    XRep F (w.setCell ⟨g, j, none⟩ u) b { a with slots := a.slots.set i s' } ss fs (ps.set i (.int .i64 s'.given, .int .i64 s'.count, v')) ∧ Kp F w (w.setCell ⟨g, j, none⟩ u) := by
  have hg : ss.ownBlock = some g := by rw [hv]; rfl
  have hk : Kp (fun q => q = g) w (w.setCell ⟨g, j, none⟩ u) := (Kp.refl _ w).setCell _ _ (.inl rfl)
  obtain ⟨cap', cur, hv', hgg, _⟩ := row_blk h.rs hg
  have hby : ∀ {l : List UInt8} {x : Value}, BytesAt (Byt F w) w l x → BytesAt (Byt F (w.setCell ⟨g, j, none⟩ u)) (w.setCell ⟨g, j, none⟩ u) l x := fun hx =>
    byt_kp hx hk (fun q _ e cs hc => by subst e; exact blk_ne hc hgg (by decide) rfl)
  refine ⟨⟨h.inF, fun k e => by simpa [World.setCell] using h.lt k e, ?_, ?_, row_set h.rf (fun e => h.neSF hg e rfl) _, h.fS, h.fF, fun i' t ht => ?_⟩, hk.mono fun q _ e => e ▸ h.fS g hg⟩
  · rw [Below.heap_setCell _ _ _ _ (Ne.symm (h.neS hg))]
    exact h.hb
  · have hrs := h.rs
    rw [hv'] at hrs ⊢
    have := (hrs.stored j u).1
    rw [hj] at this
    rw [List.length_set]
    exact this
  · have hpl := (List.getElem?_eq_some_iff.1 hp).1
    rcases getset hs ht with ⟨rfl, rfl⟩ | ⟨e, h3⟩
    · exact ⟨v', List.getElem?_set_self (by simpa using hpl), hby hb'⟩
    · obtain ⟨x, h1, h2⟩ := h.el i' t h3
      exact ⟨x, by rw [List.getElem?_set_ne (fun e' => e e'.symm)]; exact h1, hby h2⟩

/-- the list of free ones is another, in the old row, in a new one, or nil -/
theorem XRep.turnFree (h : XRep F w b a ss fs ps) {l : List Nat} {v : Value} (hk : Kp (fun _ => False) w w3) (hv : w3.ownsRow 0 3 1 v l.length (nats l.reverse)) (hF : ∀ g, v.ownBlock = some g → w.heap.size ≤ g ∧ g < w3.heap.size) :
    XGo F w b { a with free := l } (w3.setCell ⟨b, 3, none⟩ v) := by
  have h3 := h.kp hk (fun _ _ e => e)
  have hks : Kp (fun q => q = b) w3 (w3.setCell ⟨b, 3, none⟩ v) := (Kp.refl _ w3).setCell _ _ (.inl rfl)
  have hbl := h.lt b h.inF
  have hz := hk.size
  refine ⟨(hk.mono fun _ _ e => e.elim).trans (hks.mono fun q _ e => .inl (e ▸ h.inF)), fun q => F q ∨ v.ownBlock = some q, fun q hq => hq.elim .inl (fun e => .inr (hF q e).1), ss, v, ps, ?_⟩
  refine ⟨.inl h.inF, ?_, heap_set_here h3.hb _, row_set h3.rs (fun e => h3.neS e rfl) _, row_set hv (fun e => ?_) _, fun q hq => .inl (h.fS q hq), fun q hq => .inr hq, fun i s hs => ?_⟩
  · intro q hq
    rcases hq with hq | hq
    · have := h3.lt q hq; simpa [World.setCell] using this
    · simpa [World.setCell] using (hF q hq).2
  · have := (hF b e).1; omega
  · obtain ⟨x, h1, h2⟩ := h3.el i s hs
    exact ⟨x, h1, byt_more (byt_kp h2 hks (fun q _ e cs hc => by subst e; exact blk_ne hc h3.hb (by decide) rfl)) (fun q hq => .inl hq)⟩

/-- a slot that was never given is laid behind the others -/
theorem XRep.push (h : XRep F w b a ss fs ps) {o : Obj} {g cap : Nat}
    (hown : w3.ownsRow 0 319 3 (.slice (some ⟨g, 0, none⟩) (a.slots.length + 1) cap) (a.slots.length + 1) (t3 ps ++ [.int .i64 0, .int .i64 0, .slice none 0 0]))
    (hg : (w.alloc o).grownBy w3 ss.ownBlock) (hat : ss.ownBlock = some g ∨ g = w.heap.size + 1) (hlt : g < w3.heap.size) :
    XGo F w b { a with slots := a.slots ++ [(⟨[], 0, 0⟩ : Sl)] } (w3.setCell ⟨b, 2, none⟩ (.slice (some ⟨g, 0, none⟩) (a.slots.length + 1) cap)) := by
  have hk3 : Kp (fun q => ss.ownBlock = some q) w w3 := ((Kp.refl _ w).alloc o).grown hg (fun q hq => .inl hq)
  have hkF : Kp F w w3 := hk3.mono fun q _ e => h.fS q e
  have hz := hk3.size
  have hbS : ¬ ss.ownBlock = some b := fun e => h.neS e rfl
  obtain ⟨capg, curg, _, hgg, _⟩ := row_blk hown (g := g) rfl
  have hb3 := (hk3.block b (h.lt b h.inF) hbS).trans h.hb
  have hgb : g ≠ b := blk_ne hgg hb3 (by decide)
  have hks : Kp (fun q => q = b) w3 (w3.setCell ⟨b, 2, none⟩ (.slice (some ⟨g, 0, none⟩) (a.slots.length + 1) cap)) := (Kp.refl _ w3).setCell _ _ (.inl rfl)
  have byt : ∀ {l : List UInt8} {x : Value}, BytesAt (Byt F w) w l x → BytesAt (Byt (fun q => F q ∨ q = g) (w3.setCell ⟨b, 2, none⟩ (.slice (some ⟨g, 0, none⟩) (a.slots.length + 1) cap))) (w3.setCell ⟨b, 2, none⟩ (.slice (some ⟨g, 0, none⟩) (a.slots.length + 1) cap)) l x := by
    intro l x hx
    have h1 := byt_kp hx hk3 (fun q _ e cs hc => by obtain ⟨_, _, _, e', _⟩ := row_blk h.rs e; exact blk_ne hc e' (by decide) rfl)
    exact byt_more (byt_kp h1 hks (fun q _ e cs hc => by subst e; exact blk_ne hc hb3 (by decide) rfl)) (fun q hq => .inl hq)
  refine ⟨hkF.trans (hks.mono fun q _ e => .inl (e ▸ h.inF)), fun q => F q ∨ q = g, fun q hq => ?_, .slice (some ⟨g, 0, none⟩) (a.slots.length + 1) cap, fs, ps ++ [(.int .i64 0, .int .i64 0, .slice none 0 0)], ?_⟩
  · rcases hq with hq | rfl
    · exact .inl hq
    · rcases hat with e | e
      · exact .inl (h.fS _ e)
      · exact .inr (by omega)
  · refine ⟨.inl h.inF, ?_, heap_set_here hb3 _, ?_, ?_, fun q hq => .inr (by simpa [Value.ownBlock] using hq.symm), fun q hq => .inl (h.fF q hq), ?_⟩
    · intro q hq
      rcases hq with hq | rfl
      · have := h.lt q hq; simp [World.setCell]; omega
      · simpa [World.setCell] using hlt
    · have := row_set hown (p := ⟨b, 2, none⟩) (fun e => hgb (by simpa [Value.ownBlock] using e)) (.slice (some ⟨g, 0, none⟩) (a.slots.length + 1) cap)
      rw [t3_snoc, List.length_append]
      exact this
    · exact row_set (hk3.row h.rf (fun q hq e => h.neSF e hq rfl)) (fun e => h.neF e rfl) _
    · intro i s hs
      have hl := h.len
      by_cases hi : i < a.slots.length
      · rw [List.getElem?_append_left hi] at hs
        obtain ⟨v, h1, h2⟩ := h.el i s hs
        exact ⟨v, by rw [List.getElem?_append_left (by omega)]; exact h1, byt h2⟩
      · have hi2 := (List.getElem?_eq_some_iff.1 hs).1
        simp at hi2
        obtain rfl : i = a.slots.length := by omega
        rw [List.getElem?_append_right (Nat.le_refl _), Nat.sub_self] at hs
        simp at hs
        subst hs
        exact ⟨_, by rw [List.getElem?_append_right (by omega), hl, Nat.sub_self]; rfl, bytesAt_nil _ _⟩
end

theorem XGo.then {F : Nat → Prop} {w w1 w2 : World} {b : Nat} {a1 a2 : Bn} (h : XGo F w b a1 w1) (hs : ∀ F1, XAt F1 w1 b a1 → XGo F1 w1 b a2 w2) : XGo F w b a2 w2 := by
  obtain ⟨hk, F1, hn, hA⟩ := h
  obtain ⟨hk2, F2, hn2, hB⟩ := hs F1 hA
  exact ⟨kp_new hk hn hk2, F2, hn.trans hn2 hk.size, hB⟩
theorem XGo.bad {F : Nat → Prop} {w w1 w2 : World} {b : Nat} {a1 : Bn} (h : XGo F w b a1 w1) (hk : Kp (fun _ => False) w1 w2) : XGo F w b a1 w2 := by
  obtain ⟨hk1, F1, hn, hA⟩ := h
  exact ⟨hk1.trans' (hk.mono fun _ _ e => e.elim), F1, hn, hA.kp hk (fun _ _ e => e)⟩
theorem XGo.from {F : Nat → Prop} {w w1 w2 : World} {b : Nat} {a1 : Bn} (hk : Kp (fun _ => False) w w1) (h : XGo F w1 b a1 w2) : XGo F w b a1 w2 := by
  obtain ⟨hk1, F1, hn, hA⟩ := h
  refine ⟨(hk.mono fun _ _ e => e.elim).trans' hk1, F1, fun q hq => (hn q hq).elim .inl (fun e => .inr (Nat.le_trans hk.size e)), hA⟩
end Go.Proofs.YtkcmfldcdokobaaGreatDoor

/- The document's own heap of binaries: New, Used, find, Keep, Get, Part, Handles. -/
namespace Go.Proofs.YtkcmfldcdokobaaGreatDoor
open Go.RowKit
section
variable {F : Nat → Prop} {w w3 : World} {b : Nat} {a : Bn} {ss fs : Value} {ps : List (Value × Value × Value)} {N : Nat}

set_option maxHeartbeats 400000 in
theorem xnew_ok (m r : Nat) (h1 : 1 ≤ m) (h2 : m ≤ 4096) (h3 : r ≤ 1048576) (w : World) :
    Calls Tryz.prog 62 #[.int .i64 m, .int .i64 r] w fun e w' => e = .returned (.tuple #[.pointer (some ⟨w.heap.size, 0, none⟩), .pointer none]) ∧ Kp (fun _ => False) w w' ∧ XAt (fun q => q = w.heap.size) w' w.heap.size (aNew m r) := by
  go_enter Tryz.func62, Tryz.ntmps62
  go_wp2
  go_ret2
  refine ⟨rfl, (Kp.refl _ w).alloc _, .slice none 0 0, .slice none 0 0, [], ?_⟩
  exact ⟨rfl, fun k e => by subst e; simp, heap_alloc_new w _, World.ownsRow_nil _ _ _ _, World.ownsRow_nil _ _ _ _, fun g hg => by simp [Value.ownBlock] at hg, fun g hg => by simp [Value.ownBlock] at hg, fun i s hs => by simp [aNew] at hs⟩

def binsS : ByteArray := ⟨#[98, 105, 110, 97, 114, 105, 101, 115]⟩
/-- no heap of this size: N is what is wrong -/
def badNew (m r n : Int) : Prop := ((m < 1 ∨ 4096 < m) ∧ n = m) ∨ (1 ≤ m ∧ m ≤ 4096 ∧ (r < 0 ∨ 1048576 < r) ∧ n = r)

set_option maxHeartbeats 1000000 in
theorem xnew_bad (m r n : Int) (w : World) (h : badNew m r n) :
    Calls Tryz.prog 62 #[.int .i64 m, .int .i64 r] w (XBad w (fun v => .tuple #[.pointer none, v]) [Lk.fault binsS n, Lk.kind 1]) := by
  rcases h with ⟨h1, rfl⟩ | ⟨h1, h2, h3, rfl⟩
  · by_cases h : n < 1
    · clear h1
      go_enter Tryz.func62, Tryz.ntmps62
      go_wp2_with (first | (go_at_call 107; refine (k_any _ _).mono ?_; rintro e w1 ⟨rfl, rfl⟩) | (go_at_call 106; refine (f_any _ _ _ _).mono ?_; rintro e w1 ⟨rfl, rfl⟩))
      go_ret2
      exact xbad1 w (fun v => .tuple #[.pointer none, v]) _ n 1 0
    · have h' : 4096 < n := by omega
      clear h1
      go_enter Tryz.func62, Tryz.ntmps62
      go_wp2_with (first | (go_at_call 107; refine (k_any _ _).mono ?_; rintro e w1 ⟨rfl, rfl⟩) | (go_at_call 106; refine (f_any _ _ _ _).mono ?_; rintro e w1 ⟨rfl, rfl⟩))
      go_ret2
      exact xbad1 w (fun v => .tuple #[.pointer none, v]) _ n 1 0
  · by_cases h : n < 0
    · clear h3
      go_enter Tryz.func62, Tryz.ntmps62
      go_wp2_with (first | (go_at_call 107; refine (k_any _ _).mono ?_; rintro e w1 ⟨rfl, rfl⟩) | (go_at_call 106; refine (f_any _ _ _ _).mono ?_; rintro e w1 ⟨rfl, rfl⟩))
      go_ret2
      exact xbad1 w (fun v => .tuple #[.pointer none, v]) _ n 1 0
    · have h' : 1048576 < n := by omega
      clear h3
      go_enter Tryz.func62, Tryz.ntmps62
      go_wp2_with (first | (go_at_call 107; refine (k_any _ _).mono ?_; rintro e w1 ⟨rfl, rfl⟩) | (go_at_call 106; refine (f_any _ _ _ _).mono ?_; rintro e w1 ⟨rfl, rfl⟩))
      go_ret2
      exact xbad1 w (fun v => .tuple #[.pointer none, v]) _ n 1 0

set_option maxHeartbeats 1000000 in
theorem new_bad (m r n : Int) (w : World) (h : badNew m r n) :
    Calls Tryz.prog 61 #[.int .i64 m, .int .i64 r] w (EBad w (fun v => .tuple #[.pointer none, v]) [Lk.fault binsS n, Lk.kind 1]) := by
  rcases h with ⟨h1, rfl⟩ | ⟨h1, h2, h3, rfl⟩
  · by_cases h : n < 1
    · clear h1
      go_enter Tryz.func61, Tryz.ntmps61
      go_wp2_with (go_at_call 49; refine (at_any _ _ _ _ _).mono ?_; rintro e w' ⟨rfl, rfl⟩)
      go_ret2
      exact ebad1 w (fun v => .tuple #[.pointer none, v]) _ _ _ (by decide) 0
    · have h' : 4096 < n := by omega
      clear h1
      go_enter Tryz.func61, Tryz.ntmps61
      go_wp2_with (go_at_call 49; refine (at_any _ _ _ _ _).mono ?_; rintro e w' ⟨rfl, rfl⟩)
      go_ret2
      exact ebad1 w (fun v => .tuple #[.pointer none, v]) _ _ _ (by decide) 0
  · by_cases h : n < 0
    · clear h3
      go_enter Tryz.func61, Tryz.ntmps61
      go_wp2_with (go_at_call 49; refine (at_any _ _ _ _ _).mono ?_; rintro e w' ⟨rfl, rfl⟩)
      go_ret2
      exact ebad1 w (fun v => .tuple #[.pointer none, v]) _ _ _ (by decide) 0
    · have h' : 1048576 < n := by omega
      clear h3
      go_enter Tryz.func61, Tryz.ntmps61
      go_wp2_with (go_at_call 49; refine (at_any _ _ _ _ _).mono ?_; rintro e w' ⟨rfl, rfl⟩)
      go_ret2
      exact ebad1 w (fun v => .tuple #[.pointer none, v]) _ _ _ (by decide) 0

theorem sumL_take {l : List Sl} {k : Nat} {s : Sl} (hs : l[k]? = some s) : sumL (l.take (k + 1)) = sumL (l.take k) + s.bs.length := by
  rw [List.take_add_one, hs]
  exact sumL_snoc _ _
theorem sumL_take_le (l : List Sl) (k : Nat) : sumL (l.take k) ≤ sumL l := by
  have : sumL l = sumL (l.take k) + sumL (l.drop k) := by
    unfold sumL
    rw [← List.sum_append, ← List.map_append, List.take_append_drop]
  omega

end
end Go.Proofs.YtkcmfldcdokobaaGreatDoor

/- New of a heap, of the document's own, and of both with their atoms and binaries. -/
namespace Go.Proofs.YtkcmfldcdokobaaGreatDoor
open Go.RowKit

theorem Tryz.infoInts : (Tryz.prog.info? 22).map (fun i => (i.zero, i.size, i.bytes)) = some (some (.slice none 0 0), 1, 24) := by kernel_rfl

section
variable {w : World}
set_option maxHeartbeats 400000 in
set_option maxRecDepth 100000 in
theorem xarNew_ok (w : World) (size quota : Nat) (h1 : 2 ≤ size) (h2 : size ≤ 1048576) (h3 : 1 ≤ quota) (h4 : quota ≤ size) :
    Calls Tryz.prog 111 #[.int .i64 size, .int .i64 quota] w fun e w' => ∃ b, e = .returned (.tuple #[.pointer (some ⟨b, 0, none⟩), .pointer none]) ∧ Kp (fun _ => False) w w' := by
  obtain ⟨i0, hi, hz0, hz1, hz2⟩ := info_parts Tryz.infoInts
  go_enter Tryz.func111, Tryz.ntmps111
  go_wp2_with (at_make; refine wpList_make_full _ rfl _ _ 260 rfl w.heap.size 22 i0 (.slice none 0 0) 1 Tryz.underlying260 hi hz0 hz1 .i64 .i64 _ _ 40 rfl rfl rfl rfl (by rw [hz2]; omega) (by unfold maxLen; omega) (Nat.le_refl _) ?_; intro w1 hown hgrow; refine Hid.out ?_)
  have HC := Lib.hid hgrow
  clear hgrow hown
  refine Lib.hid ?_
  go_wp2_with fail
  go_ret2
  exact ⟨_, rfl, ((Kp.refl _ w).grown HC.out (fun k hk => by cases hk)).alloc _⟩

set_option maxHeartbeats 400000 in
set_option maxRecDepth 100000 in
theorem xhpNew_ok (w : World) (size quota : Nat) (h1 : 2 ≤ size) (h2 : size ≤ 1048576) (h3 : 1 ≤ quota) (h4 : quota ≤ size) (at_ d : Option Addr) :
    Calls Tryz.prog 66 #[.int .i64 size, .int .i64 quota, .pointer at_, .pointer d] w fun e w' => ∃ b, e = .returned (.tuple #[.pointer (some ⟨b, 0, none⟩), .pointer none]) ∧ Kp (fun _ => False) w w' := by
  go_enter Tryz.func66, Tryz.ntmps66
  go_wp2_with fail
  refine (xarNew_ok w size quota h1 h2 h3 h4).mono ?_
  rintro e w1 ⟨b, rfl, hk⟩
  have HK := Lib.hid hk
  clear hk
  go_wp2_with fail
  go_ret2
  exact ⟨_, rfl, HK.out.alloc _⟩

set_option maxHeartbeats 400000 in
set_option maxRecDepth 100000 in
theorem hpNew_ok (w : World) (size quota : Nat) (h1 : 2 ≤ size) (h2 : size ≤ 1048576) (h3 : 1 ≤ quota) (h4 : quota ≤ size) (tb bb : Nat) :
    Calls Tryz.prog 64 #[.int .i64 size, .int .i64 quota, .pointer (some ⟨tb, 0, none⟩), .pointer (some ⟨bb, 0, none⟩)] w fun e w' => ∃ w1, e = .returned (.tuple #[.pointer (some ⟨w.heap.size + 1, 0, none⟩), .nilIface]) ∧
      Rep w1 (only w.heap.size) w.heap.size (Ar.new size quota) ∧ Kp (fun _ => False) w w1 ∧ w1.heap.size = w.heap.size + 1 ∧ w' = w1.alloc (.cells #[.pointer (some ⟨w.heap.size, 0, none⟩), .pointer (some ⟨tb, 0, none⟩), .pointer (some ⟨bb, 0, none⟩), .slice none 0 0, .int .i64 0] 52) := by
  go_enter Tryz.func64, Tryz.ntmps64
  go_wp2_with fail
  refine (arNew_ok w size quota h1 h2 h3 h4).mono ?_
  rintro e w1 ⟨rfl, hR, hk, hz⟩
  have H := Lib.hid (And.intro hR (And.intro hk hz))
  clear hR hk hz
  go_wp2_with fail
  go_ret2
  exact ⟨w1, (by show Ending.returned (.tuple #[.pointer (some ⟨w1.heap.size, 0, none⟩), .nilIface]) = _; rw [H.out.2.2]), H.out.1, H.out.2.1, H.out.2.2, rfl⟩

/-- a heap with nothing in it, with a table and binaries with nothing in them -/
theorem hs_new {w0 w w1 : World} {tb bb m r size quota : Nat} (hk : Kp (fun _ => False) w0 w) (hT : AtRep w (fun q => q = tb) tb []) (hB : BAt (fun q => q = bb) w bb (aNew m r)) (h1 : 1 ≤ m) (h2 : m ≤ 4096) (h3 : r ≤ 1048576) (hs : size ≤ 1048576) (hq : quota ≤ size)
    (htb : w0.heap.size ≤ tb) (hbb : w0.heap.size ≤ bb) (hne : tb ≠ bb) (hR : Rep w1 (only w.heap.size) w.heap.size (Ar.new size quota)) (hk1 : Kp (fun _ => False) w w1) (hz : w1.heap.size = w.heap.size + 1) :
    ∃ col, Hs w0 (w1.alloc (.cells #[.pointer (some ⟨w.heap.size, 0, none⟩), .pointer (some ⟨tb, 0, none⟩), .pointer (some ⟨bb, 0, none⟩), .slice none 0 0, .int .i64 0] 52)) col (w.heap.size + 1) w.heap.size tb bb (.slice none 0 0) 0 [] (Ar.new size quota) [] 1 (aNew m r) := by
  have hko : Kp (fun _ => False) w1 (w1.alloc (.cells #[.pointer (some ⟨w.heap.size, 0, none⟩), .pointer (some ⟨tb, 0, none⟩), .pointer (some ⟨bb, 0, none⟩), .slice none 0 0, .int .i64 0] 52)) := (Kp.refl _ w1).alloc _
  have hlb := hB.lt bb rfl
  have hlt : tb < w.heap.size := by
    rcases hT with ⟨h, hl, _⟩ | ⟨mb, D, v, h⟩
    · exact hl tb h
    · exact h.lt tb h.fb
  have hko2 := hk1.trans' hko
  have hz2 : (w1.alloc (.cells #[.pointer (some ⟨w.heap.size, 0, none⟩), .pointer (some ⟨tb, 0, none⟩), .pointer (some ⟨bb, 0, none⟩), .slice none 0 0, .int .i64 0] 52)).heap.size = w.heap.size + 2 := by simp [hz]
  have hnew := heap_alloc_new w1 (.cells #[.pointer (some ⟨w.heap.size, 0, none⟩), .pointer (some ⟨tb, 0, none⟩), .pointer (some ⟨bb, 0, none⟩), .slice none 0 0, .int .i64 0] 52)
  rw [hz] at hnew
  have hsz := hk.size
  refine ⟨fun q => if q = w.heap.size + 1 then 1 else if q = w.heap.size then 2 else if q = tb then 3 else if q = bb then 4 else 0, ⟨⟨by simp, by omega⟩, Fi_lt, hnew, World.ownsRow_nil _ _ _ _, by simp [Value.ownBlock]⟩, ⟨cell_of hnew 0, ?_, Inv.new size quota hs hq, fun i x h => by simp [Ar.new] at h⟩, ?_, ?_, inv_new m r h1 h2 h3 1, fun q hq => ?_, hk.trans' hko2⟩
  · refine (hR.kp hko).more' (fun q hq => ?_) Fi_lt
    have hq' : q = w.heap.size := hq
    subst hq'
    exact ⟨by simp, by omega⟩
  · refine (hT.kp hko2 (fun _ _ e => e)).more (fun q hq => ?_) Fi_lt
    subst hq
    refine ⟨?_, by omega⟩
    dsimp only
    rw [if_neg (by omega), if_neg (by omega), if_pos rfl]
  · refine (hB.kp hko2 (fun _ _ e => e)).more (fun q hq => ?_) Fi_lt
    subst hq
    refine ⟨?_, by omega⟩
    dsimp only
    rw [if_neg (by omega), if_neg (by omega), if_neg (fun e => hne e.symm), if_pos rfl]
  · rw [if_neg (by omega), if_neg (by omega), if_neg (by omega), if_neg (by omega)]

/-- the statements' own pair of heaps -/
structure OnAt (w0 w : World) (o hb bb : Nat) (x : Option Addr) (lv : Value) : Prop where
  box : w.heap[o]? = some (.cells #[.pointer (some ⟨hb, 0, none⟩), .pointer x, .pointer (some ⟨bb, 0, none⟩), lv] 36 (0, 0))
  new : w0.heap.size ≤ o

set_option maxHeartbeats 1000000 in
set_option maxRecDepth 100000 in
theorem on_new (w : World) (size quota m r : Nat) (h1 : 2 ≤ size) (h2 : size ≤ 1048576) (h3 : 1 ≤ quota) (h4 : quota ≤ size) (h5 : 1 ≤ m) (h6 : m ≤ 4096) (h7 : r ≤ 1048576) :
    Calls Tryz.prog 28 #[.int .i64 size, .int .i64 quota, .int .i64 m, .int .i64 r] w fun e w' => ∃ o hb ab tb bb xb col, e = .returned (.tuple #[.pointer (some ⟨o, 0, none⟩), .bool true]) ∧
      OnAt w w' o hb bb (some ⟨xb, 0, none⟩) (.slice none 0 0) ∧ col o = 0 ∧ Hs w w' col hb ab tb bb (.slice none 0 0) 0 [] (Ar.new size quota) [] 1 (aNew m r) := by
  go_enter Tryz.func28, Tryz.ntmps28
  go_wp2_with fail
  refine (new_ok m r h5 h6 h7 w).mono ?_
  rintro e wa ⟨rfl, hk1, hB⟩
  have Ha := Lib.hid (And.intro hk1 hB)
  clear hk1 hB
  go_wp2_with fail
  refine (xnew_ok m r h5 h6 h7 wa).mono ?_
  rintro e wb ⟨rfl, hk2, _⟩
  have Hb := Lib.hid hk2
  clear hk2
  go_wp2_with fail
  refine (newAtoms_any wb).mono ?_
  rintro e wc ⟨rfl, hwc⟩
  have hs := solo_new wb
  rw [← hwc] at hs
  have Hc := Lib.hid hs
  clear hs hwc
  go_wp2_with fail
  refine (hpNew_ok wc size quota h1 h2 h3 h4 wb.heap.size w.heap.size).mono ?_
  rintro e wd ⟨w1, rfl, hR, hk3, hz, hwd⟩
  have hlt := Ha.out.2.lt w.heap.size rfl
  have hkab := Hb.out.trans' Hc.out.kp
  have hsz := Ha.out.1.size
  have hszb := Hb.out.size
  obtain ⟨col, hs⟩ := hs_new (w0 := w) (Ha.out.1.trans' hkab) Hc.out.ra (Ha.out.2.kp hkab (fun _ _ e => e)) h5 h6 h7 h2 h4 (by omega) (Nat.le_refl _) (by omega) hR hk3 hz
  rw [← hwd] at hs
  have Hd := Lib.hid hs
  clear hs hwd hR hk3 hz hkab
  go_wp2_with fail
  refine (xhpNew_ok _ size quota h1 h2 h3 h4 _ _).mono ?_
  rintro e we ⟨xb, rfl, hk4⟩
  have hk5 : Kp (fun _ => False) wd we := by
    have := (Kp.refl (fun _ => False) wd).alloc (.cells #[.slice none 0 0] 135)
    exact this.trans' hk4
  have He := Lib.hid (Hd.out.same hk5)
  clear hk4 hk5
  go_wp2_with fail
  refine (ref_any [] _ _ _ (by simp) rfl rfl).mono ?_
  rintro e wf ⟨rfl, hk6⟩
  have Hf := Lib.hid (He.out.same hk6)
  clear hk6
  go_wp2_with fail
  go_ret2
  have hko := (Kp.refl (fun _ => False) wf).alloc (.cells #[.pointer (some ⟨wc.heap.size + 1, 0, none⟩), .pointer (some ⟨xb, 0, none⟩), .pointer (some ⟨w.heap.size, 0, none⟩), .slice none 0 0] 36)
  exact ⟨wf.heap.size, wc.heap.size + 1, wc.heap.size, wb.heap.size, w.heap.size, xb, _, rfl, ⟨heap_alloc_new wf _, Hf.out.kp.size⟩, by unfold recol; rw [if_neg (by omega)], Hf.out.same hko⟩

set_option maxHeartbeats 400000 in
theorem great_any (w : World) :
    Calls Tryz.prog 13 #[] w fun e w' => ∃ o hb ab tb bb xb col, e = .returned (.tuple #[.pointer (some ⟨o, 0, none⟩), .bool true]) ∧
      OnAt w w' o hb bb (some ⟨xb, 0, none⟩) (.slice none 0 0) ∧ col o = 0 ∧ Hs w w' col hb ab tb bb (.slice none 0 0) 0 [] (Ar.new 20000 20000) [] 1 (aNew 100 20000) := by
  go_enter Tryz.func13, Tryz.ntmps13
  go_wp2_with fail
  refine (on_new w 20000 20000 100 20000 (by omega) (by omega) (by omega) (by omega) (by omega) (by omega) (by omega)).mono ?_
  rintro e w1 ⟨o, hb, ab, tb, bb, xb, col, rfl, h1, h2, h3⟩
  have H := Lib.hid (And.intro h1 (And.intro h2 h3))
  clear h1 h2 h3
  go_wp2_with fail
  go_ret2
  exact ⟨o, hb, ab, tb, bb, xb, col, rfl, H.out.1, H.out.2.1, H.out.2.2⟩
end
end Go.Proofs.YtkcmfldcdokobaaGreatDoor
