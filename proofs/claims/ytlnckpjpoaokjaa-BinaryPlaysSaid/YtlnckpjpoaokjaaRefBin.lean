/- The document's own heap of binaries, as it lies in memory, over the same plain data. -/
import Derived.Test.YtlnckpjpoaokjaaHandles
import Derived.Test.YtlnckpjpoaokjaaLoose
namespace Go.Proofs.Ytlnckpjpoaokjaa
open Go.RowKit

/-- how often a slot was given -/
def Sl.given (s : Sl) : Nat := if s.count = 0 then s.gen else s.gen + 1

structure XRep (F : Nat → Prop) (w : World) (b : Nat) (a : Bn) (ss fs : Value) (ps : List (Value × Value × Value)) : Prop where
  inF : F b
  lt : ∀ k, F k → k < w.heap.size
  hb : w.heap[b]? = some (.cells #[.int .i64 a.most, .int .i64 a.room, ss, fs] 92 (0, 0))
  rs : w.ownsRow 0 103 3 ss a.slots.length (t3 ps)
  rf : w.ownsRow 0 3 1 fs a.free.length (nats a.free.reverse)
  fS : ∀ g, ss.ownBlock = some g → F g
  fF : ∀ g, fs.ownBlock = some g → F g
  el : ∀ (i : Nat) (s : Sl), a.slots[i]? = some s → ∃ v, ps[i]? = some (.int .i64 s.given, .int .i64 s.count, v) ∧ BytesAt (Byt F w) w s.bs v

def XAt (F : Nat → Prop) (w : World) (b : Nat) (a : Bn) : Prop := ∃ ss fs ps, XRep F w b a ss fs ps
def XGo (F : Nat → Prop) (w : World) (b : Nat) (a' : Bn) (w' : World) : Prop := Kp F w w' ∧ ∃ F', New F w F' ∧ XAt F' w' b a'

section
variable {F G : Nat → Prop} {w w' w3 : World} {b : Nat} {a : Bn} {ss fs : Value} {ps : List (Value × Value × Value)}

theorem XRep.len (h : XRep F w b a ss fs ps) : ps.length = a.slots.length := by
  have := h.rs.1
  rw [t3_len] at this
  omega
theorem XRep.kp (h : XRep F w b a ss fs ps) (hk : Kp G w w') (hd : ∀ q, F q → ¬ G q) : XRep F w' b a ss fs ps :=
  ⟨h.inF, fun k e => Nat.lt_of_lt_of_le (h.lt k e) hk.size, (hk.block b (h.lt b h.inF) (hd b h.inF)).trans h.hb, hk.row h.rs (fun g hg => hd g (h.fS g hg)), hk.row h.rf (fun g hg => hd g (h.fF g hg)), h.fS, h.fF,
    fun i s hs => by
      obtain ⟨v, h1, h2⟩ := h.el i s hs
      exact ⟨v, h1, byt_kp h2 hk (fun q hF hG _ _ => hd q hF hG)⟩⟩
theorem XRep.more (h : XRep F w b a ss fs ps) (hFG : ∀ k, F k → G k) (hlt : ∀ k, G k → k < w.heap.size) : XRep G w b a ss fs ps :=
  ⟨hFG b h.inF, hlt, h.hb, h.rs, h.rf, fun g hg => hFG g (h.fS g hg), fun g hg => hFG g (h.fF g hg), fun i s hs => by
      obtain ⟨v, h1, h2⟩ := h.el i s hs
      exact ⟨v, h1, byt_more h2 hFG⟩⟩
theorem XAt.kp (h : XAt F w b a) (hk : Kp G w w') (hd : ∀ q, F q → ¬ G q) : XAt F w' b a := by obtain ⟨_, _, _, h⟩ := h; exact ⟨_, _, _, h.kp hk hd⟩
theorem XAt.lt (h : XAt F w b a) : ∀ q, F q → q < w.heap.size := by obtain ⟨_, _, _, h⟩ := h; exact h.lt
theorem XRep.neS (h : XRep F w b a ss fs ps) {g : Nat} (hg : ss.ownBlock = some g) : g ≠ b := by
  obtain ⟨_, _, _, e, _⟩ := row_blk h.rs hg
  exact blk_ne e h.hb (by decide)
theorem XRep.neF (h : XRep F w b a ss fs ps) {g : Nat} (hg : fs.ownBlock = some g) : g ≠ b := by
  obtain ⟨_, _, _, e, _⟩ := row_blk h.rf hg
  exact blk_ne e h.hb (by decide)
theorem XRep.neSF (h : XRep F w b a ss fs ps) {g g' : Nat} (hg : ss.ownBlock = some g) (hg' : fs.ownBlock = some g') : g ≠ g' := by
  obtain ⟨_, _, _, e, _⟩ := row_blk h.rs hg
  obtain ⟨_, _, _, e', _⟩ := row_blk h.rf hg'
  exact blk_ne e e' (by decide)
theorem XRep.cells (h : XRep F w b a ss fs ps) : w.cell? ⟨b, 0, none⟩ = some (.int .i64 a.most) ∧ w.cell? ⟨b, 1, none⟩ = some (.int .i64 a.room) ∧ w.cell? ⟨b, 2, none⟩ = some ss ∧
    w.cell? ⟨b, 3, none⟩ = some fs ∧ ∀ j, w.frozen? ⟨b, j, none⟩ = false :=
  ⟨by rw [cell_of h.hb]; rfl, by rw [cell_of h.hb]; rfl, by rw [cell_of h.hb]; rfl, by rw [cell_of h.hb]; rfl, fun j => frozen_of h.hb j⟩

theorem XRep.slot (h : XRep F w b a ss fs ps) {i : Nat} {s : Sl} (hs : a.slots[i]? = some s) :
    ∃ g cap v, ss = .slice (some ⟨g, 0, none⟩) a.slots.length cap ∧ ps[i]? = some (.int .i64 s.given, .int .i64 s.count, v) ∧ BytesAt (Byt F w) w s.bs v ∧
      w.cell? ⟨g, i * 3, none⟩ = some (.int .i64 s.given) ∧ w.cell? ⟨g, i * 3 + 1, none⟩ = some (.int .i64 s.count) ∧ w.cell? ⟨g, i * 3 + 2, none⟩ = some v ∧ (∀ j, w.frozen? ⟨g, j, none⟩ = false) ∧ F g ∧ g ≠ b := by
  have hil := (List.getElem?_eq_some_iff.1 hs).1
  obtain ⟨v, h1, h2⟩ := h.el i s hs
  obtain ⟨g, cap, hv, _, _⟩ := h.rs.form (by omega)
  have hg : ss.ownBlock = some g := by rw [hv]; rfl
  have hrs := h.rs
  rw [hv] at hrs
  have h3 := t3_get ps i _ h1
  exact ⟨g, cap, v, hv, h1, h2, by rw [hrs.cellAt _ (by omega)]; exact h3.1, by rw [hrs.cellAt _ (by omega)]; exact h3.2.1, by rw [hrs.cellAt _ (by omega)]; exact h3.2.2, fun j => hrs.frozenAt j, h.fS g hg, h.neS hg⟩

theorem XRep.setSlot (h : XRep F w b a ss fs ps) {i : Nat} {s s' : Sl} {v : Value} {c0 c1 : Value} (hs : a.slots[i]? = some s) {g n cap : Nat} (hv : ss = .slice (some ⟨g, 0, none⟩) n cap) (hp : ps[i]? = some (c0, c1, v))
    (j : Nat) (u v' : Value) (hj : (t3 ps).set j u = t3 (ps.set i (.int .i64 s'.given, .int .i64 s'.count, v'))) (hb' : BytesAt (Byt F w) w s'.bs v') :
    XRep F (w.setCell ⟨g, j, none⟩ u) b { a with slots := a.slots.set i s' } ss fs (ps.set i (.int .i64 s'.given, .int .i64 s'.count, v')) ∧ Kp F w (w.setCell ⟨g, j, none⟩ u) := by
  have hg : ss.ownBlock = some g := by rw [hv]; rfl
  have hk : Kp (fun q => q = g) w (w.setCell ⟨g, j, none⟩ u) := (Kp.refl _ w).setCell _ _ (.inl rfl)
  obtain ⟨cap', cur, hv', hgg, _⟩ := row_blk h.rs hg
  have hby : ∀ {l : List UInt8} {x : Value}, BytesAt (Byt F w) w l x → BytesAt (Byt F (w.setCell ⟨g, j, none⟩ u)) (w.setCell ⟨g, j, none⟩ u) l x := fun hx =>
    byt_kp hx hk (fun q _ e cs hc => by subst e; exact blk_ne hc hgg (by decide) rfl)
  refine ⟨⟨h.inF, fun k e => by simpa [World.setCell] using h.lt k e, ?_, ?_, row_set h.rf (fun e => h.neSF hg e rfl) _, h.fS, h.fF, fun i' t ht => ?_⟩, hk.mono fun q _ e => e ▸ h.fS g hg⟩
  · rw [Below.heap_setCell _ _ _ _ (Ne.symm (h.neS hg))]
    exact h.hb
  · have hrs := h.rs
    rw [hv'] at hrs ⊢
    have := (hrs.stored j u).1
    rw [hj] at this
    rw [List.length_set]
    exact this
  · have hpl := (List.getElem?_eq_some_iff.1 hp).1
    rcases getset hs ht with ⟨rfl, rfl⟩ | ⟨e, h3⟩
    · exact ⟨v', List.getElem?_set_self (by simpa using hpl), hby hb'⟩
    · obtain ⟨x, h1, h2⟩ := h.el i' t h3
      exact ⟨x, by rw [List.getElem?_set_ne (fun e' => e e'.symm)]; exact h1, hby h2⟩

/-- the list of free ones is another, in the old row, in a new one, or nil -/
theorem XRep.turnFree (h : XRep F w b a ss fs ps) {l : List Nat} {v : Value} (hk : Kp (fun _ => False) w w3) (hv : w3.ownsRow 0 3 1 v l.length (nats l.reverse)) (hF : ∀ g, v.ownBlock = some g → w.heap.size ≤ g ∧ g < w3.heap.size) :
    XGo F w b { a with free := l } (w3.setCell ⟨b, 3, none⟩ v) := by
  have h3 := h.kp hk (fun _ _ e => e)
  have hks : Kp (fun q => q = b) w3 (w3.setCell ⟨b, 3, none⟩ v) := (Kp.refl _ w3).setCell _ _ (.inl rfl)
  have hbl := h.lt b h.inF
  have hz := hk.size
  refine ⟨(hk.mono fun _ _ e => e.elim).trans (hks.mono fun q _ e => .inl (e ▸ h.inF)), fun q => F q ∨ v.ownBlock = some q, fun q hq => hq.elim .inl (fun e => .inr (hF q e).1), ss, v, ps, ?_⟩
  refine ⟨.inl h.inF, ?_, heap_set_here h3.hb _, row_set h3.rs (fun e => h3.neS e rfl) _, row_set hv (fun e => ?_) _, fun q hq => .inl (h.fS q hq), fun q hq => .inr hq, fun i s hs => ?_⟩
  · intro q hq
    rcases hq with hq | hq
    · have := h3.lt q hq; simpa [World.setCell] using this
    · simpa [World.setCell] using (hF q hq).2
  · have := (hF b e).1; omega
  · obtain ⟨x, h1, h2⟩ := h3.el i s hs
    exact ⟨x, h1, byt_more (byt_kp h2 hks (fun q _ e cs hc => by subst e; exact blk_ne hc h3.hb (by decide) rfl)) (fun q hq => .inl hq)⟩

/-- a slot that was never given is laid behind the others -/
theorem XRep.push (h : XRep F w b a ss fs ps) {o : Obj} {g cap : Nat}
    (hown : w3.ownsRow 0 103 3 (.slice (some ⟨g, 0, none⟩) (a.slots.length + 1) cap) (a.slots.length + 1) (t3 ps ++ [.int .i64 0, .int .i64 0, .slice none 0 0]))
    (hg : (w.alloc o).grownBy w3 ss.ownBlock) (hat : ss.ownBlock = some g ∨ g = w.heap.size + 1) (hlt : g < w3.heap.size) :
    XGo F w b { a with slots := a.slots ++ [(⟨[], 0, 0⟩ : Sl)] } (w3.setCell ⟨b, 2, none⟩ (.slice (some ⟨g, 0, none⟩) (a.slots.length + 1) cap)) := by
  have hk3 : Kp (fun q => ss.ownBlock = some q) w w3 := ((Kp.refl _ w).alloc o).grown hg (fun q hq => .inl hq)
  have hkF : Kp F w w3 := hk3.mono fun q _ e => h.fS q e
  have hz := hk3.size
  have hbS : ¬ ss.ownBlock = some b := fun e => h.neS e rfl
  obtain ⟨capg, curg, _, hgg, _⟩ := row_blk hown (g := g) rfl
  have hb3 := (hk3.block b (h.lt b h.inF) hbS).trans h.hb
  have hgb : g ≠ b := blk_ne hgg hb3 (by decide)
  have hks : Kp (fun q => q = b) w3 (w3.setCell ⟨b, 2, none⟩ (.slice (some ⟨g, 0, none⟩) (a.slots.length + 1) cap)) := (Kp.refl _ w3).setCell _ _ (.inl rfl)
  have byt : ∀ {l : List UInt8} {x : Value}, BytesAt (Byt F w) w l x → BytesAt (Byt (fun q => F q ∨ q = g) (w3.setCell ⟨b, 2, none⟩ (.slice (some ⟨g, 0, none⟩) (a.slots.length + 1) cap))) (w3.setCell ⟨b, 2, none⟩ (.slice (some ⟨g, 0, none⟩) (a.slots.length + 1) cap)) l x := by
    intro l x hx
    have h1 := byt_kp hx hk3 (fun q _ e cs hc => by obtain ⟨_, _, _, e', _⟩ := row_blk h.rs e; exact blk_ne hc e' (by decide) rfl)
    exact byt_more (byt_kp h1 hks (fun q _ e cs hc => by subst e; exact blk_ne hc hb3 (by decide) rfl)) (fun q hq => .inl hq)
  refine ⟨hkF.trans (hks.mono fun q _ e => .inl (e ▸ h.inF)), fun q => F q ∨ q = g, fun q hq => ?_, .slice (some ⟨g, 0, none⟩) (a.slots.length + 1) cap, fs, ps ++ [(.int .i64 0, .int .i64 0, .slice none 0 0)], ?_⟩
  · rcases hq with hq | rfl
    · exact .inl hq
    · rcases hat with e | e
      · exact .inl (h.fS _ e)
      · exact .inr (by omega)
  · refine ⟨.inl h.inF, ?_, heap_set_here hb3 _, ?_, ?_, fun q hq => .inr (by simpa [Value.ownBlock] using hq.symm), fun q hq => .inl (h.fF q hq), ?_⟩
    · intro q hq
      rcases hq with hq | rfl
      · have := h.lt q hq; simp [World.setCell]; omega
      · simpa [World.setCell] using hlt
    · have := row_set hown (p := ⟨b, 2, none⟩) (fun e => hgb (by simpa [Value.ownBlock] using e)) (.slice (some ⟨g, 0, none⟩) (a.slots.length + 1) cap)
      rw [t3_snoc, List.length_append]
      exact this
    · exact row_set (hk3.row h.rf (fun q hq e => h.neSF e hq rfl)) (fun e => h.neF e rfl) _
    · intro i s hs
      have hl := h.len
      by_cases hi : i < a.slots.length
      · rw [List.getElem?_append_left hi] at hs
        obtain ⟨v, h1, h2⟩ := h.el i s hs
        exact ⟨v, by rw [List.getElem?_append_left (by omega)]; exact h1, byt h2⟩
      · have hi2 := (List.getElem?_eq_some_iff.1 hs).1
        simp at hi2
        obtain rfl : i = a.slots.length := by omega
        rw [List.getElem?_append_right (Nat.le_refl _), Nat.sub_self] at hs
        simp at hs
        subst hs
        exact ⟨_, by rw [List.getElem?_append_right (by omega), hl, Nat.sub_self]; rfl, bytesAt_nil _ _⟩
end

theorem XGo.then {F : Nat → Prop} {w w1 w2 : World} {b : Nat} {a1 a2 : Bn} (h : XGo F w b a1 w1) (hs : ∀ F1, XAt F1 w1 b a1 → XGo F1 w1 b a2 w2) : XGo F w b a2 w2 := by
  obtain ⟨hk, F1, hn, hA⟩ := h
  obtain ⟨hk2, F2, hn2, hB⟩ := hs F1 hA
  exact ⟨kp_new hk hn hk2, F2, hn.trans hn2 hk.size, hB⟩
theorem XGo.bad {F : Nat → Prop} {w w1 w2 : World} {b : Nat} {a1 : Bn} (h : XGo F w b a1 w1) (hk : Kp (fun _ => False) w1 w2) : XGo F w b a1 w2 := by
  obtain ⟨hk1, F1, hn, hA⟩ := h
  exact ⟨hk1.trans' (hk.mono fun _ _ e => e.elim), F1, hn, hA.kp hk (fun _ _ e => e)⟩
theorem XGo.from {F : Nat → Prop} {w w1 w2 : World} {b : Nat} {a1 : Bn} (hk : Kp (fun _ => False) w w1) (h : XGo F w1 b a1 w2) : XGo F w b a1 w2 := by
  obtain ⟨hk1, F1, hn, hA⟩ := h
  refine ⟨(hk.mono fun _ _ e => e.elim).trans' hk1, F1, fun q hq => (hn q hq).elim .inl (fun e => .inr (Nat.le_trans hk.size e)), hA⟩
end Go.Proofs.Ytlnckpjpoaokjaa
