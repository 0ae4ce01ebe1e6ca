/- The binaries of a heap as plain data, and as they lie in memory. -/
import Derived.Test.YtlnckpjpoaokjaaBytes
import Derived.Test.YtlnckpjpoaokjaaErr
namespace Go.Proofs.Ytlnckpjpoaokjaa
open Go.RowKit

/-- a slot: its bytes, how often it is held, its generation (of a slot that is free: the one that it will have) -/
structure Sl where
  bs : List UInt8
  count : Nat
  gen : Nat
structure Bn where
  most : Nat
  room : Nat
  used : Nat
  slots : List Sl
  free : List Nat

/-- rows of three cells -/
def t3 (l : List (Value × Value × Value)) : List Value := l.flatMap fun p => [p.1, p.2.1, p.2.2]
theorem t3_cons (p : Value × Value × Value) (l : List (Value × Value × Value)) : t3 (p :: l) = p.1 :: p.2.1 :: p.2.2 :: t3 l := rfl
theorem t3_len : ∀ (l : List (Value × Value × Value)), (t3 l).length = l.length * 3
  | [] => rfl
  | p :: l => by rw [t3_cons]; simp only [List.length_cons, t3_len l]; omega
theorem t3_snoc (l : List (Value × Value × Value)) (p : Value × Value × Value) : t3 (l ++ [p]) = t3 l ++ [p.1, p.2.1, p.2.2] := by simp [t3]
theorem t3_get : ∀ (l : List (Value × Value × Value)) (i : Nat) (p : Value × Value × Value), l[i]? = some p → (t3 l)[i * 3]? = some p.1 ∧ (t3 l)[i * 3 + 1]? = some p.2.1 ∧ (t3 l)[i * 3 + 2]? = some p.2.2
  | [], i, p, h => by simp at h
  | q :: l, 0, p, h => by
    simp at h
    subst h
    exact ⟨rfl, rfl, rfl⟩
  | q :: l, i + 1, p, h => by
    have ih := t3_get l i p (by simpa using h)
    have e : ∀ k, (t3 (q :: l))[(i + 1) * 3 + k]? = (t3 l)[i * 3 + k]? := by
      intro k
      rw [t3_cons, show (i + 1) * 3 + k = (i * 3 + k) + 1 + 1 + 1 by omega]
      simp
    exact ⟨by rw [← ih.1]; exact e 0, by rw [← ih.2.1]; exact e 1, by rw [← ih.2.2]; exact e 2⟩
theorem t3_set : ∀ (l : List (Value × Value × Value)) (i : Nat) (p : Value × Value × Value), l[i]? = some p → ∀ v,
    (t3 l).set (i * 3) v = t3 (l.set i (v, p.2.1, p.2.2)) ∧ (t3 l).set (i * 3 + 1) v = t3 (l.set i (p.1, v, p.2.2)) ∧ (t3 l).set (i * 3 + 2) v = t3 (l.set i (p.1, p.2.1, v))
  | [], i, p, h, v => by simp at h
  | q :: l, 0, p, h, v => by
    simp at h
    subst h
    simp [t3_cons]
  | q :: l, i + 1, p, h, v => by
    have ih := t3_set l i p (by simpa using h) v
    have e : ∀ k, (t3 (q :: l)).set ((i + 1) * 3 + k) v = q.1 :: q.2.1 :: q.2.2 :: (t3 l).set (i * 3 + k) v := by
      intro k
      rw [t3_cons, show (i + 1) * 3 + k = (i * 3 + k) + 1 + 1 + 1 by omega]
      rfl
    have e0 : (t3 (q :: l)).set ((i + 1) * 3) v = q.1 :: q.2.1 :: q.2.2 :: (t3 l).set (i * 3) v := e 0
    rw [e0, e 1, e 2, ih.1, ih.2.1, ih.2.2]
    exact ⟨rfl, rfl, rfl⟩

/-- a row of numbers -/
def nats (l : List Nat) : List Value := l.map fun (i : Nat) => Value.int .i64 (i : Int)
theorem nats_len (l : List Nat) : (nats l).length = l.length := by simp [nats]
theorem nats_get {l : List Nat} {i k : Nat} (h : l[i]? = some k) : (nats l)[i]? = some (.int .i64 k) := by simp [nats, h]

/-- the heap a lies in memory: its head in block b, its rows and the bytes in blocks of F -/
structure BRep (F : Nat → Prop) (w : World) (b : Nat) (a : Bn) (ss fs : Value) (ps : List (Value × Value × Value)) : Prop where
  inF : F b
  lt : ∀ k, F k → k < w.heap.size
  hb : w.heap[b]? = some (.cells #[.int .i64 a.most, .int .i64 a.room, .int .i64 a.used, ss, fs] 87 (0, 0))
  rs : w.ownsRow 0 100 3 ss a.slots.length (t3 ps)
  rf : w.ownsRow 0 3 1 fs a.free.length (nats a.free)
  fS : ∀ g, ss.ownBlock = some g → F g
  fF : ∀ g, fs.ownBlock = some g → F g
  el : ∀ (i : Nat) (s : Sl), a.slots[i]? = some s → ∃ v, ps[i]? = some (v, .int .i64 s.count, .int .i64 s.gen) ∧ BytesAt (Byt F w) w s.bs v

/-- a row's block -/
theorem row_blk {w : World} {base : Nat} {e : TypeId} {size : Nat} {v : Value} {n : Nat} {xs : List Value} (h : w.ownsRow base e size v n xs) {g : Nat} (hg : v.ownBlock = some g) :
    ∃ cap cur, v = .slice (some ⟨g, 0, none⟩) n cap ∧ w.heap[g]? = some (.cells cur e (0, 0)) ∧ n ≤ cap := by
  rcases h.2 with ⟨e, _⟩ | ⟨g', cap, cur, rfl, _, hh, hn, _⟩
  · rw [e] at hg; simp [Value.ownBlock] at hg
  · have : g' = g := by simpa [Value.ownBlock] using hg
    subst this
    exact ⟨cap, cur, rfl, hh, hn⟩
theorem blk_ne {w : World} {p q : Nat} {c d : Array Value} {s t : TypeId} {f g : Nat × Nat} (h : w.heap[p]? = some (.cells c s f)) (h' : w.heap[q]? = some (.cells d t g)) (hne : s ≠ t) : p ≠ q := by
  rintro rfl
  rw [h] at h'
  injection h' with h'
  injection h' with _ ht
  exact hne ht
theorem cell_of {w : World} {b : Nat} {cs : Array Value} {T : TypeId} {f : Nat × Nat} (h : w.heap[b]? = some (.cells cs T f)) (j : Nat) : w.cell? ⟨b, j, none⟩ = cs[j]? := cell_of_row w b j cs T f h
theorem frozen_of {w : World} {b : Nat} {cs : Array Value} {T : TypeId} (h : w.heap[b]? = some (.cells cs T (0, 0))) (j : Nat) : w.frozen? ⟨b, j, none⟩ = false := by simp [World.frozen?, h]
theorem heap_set_here {w : World} {b i : Nat} {cs : Array Value} {T : TypeId} {fr : Nat × Nat} (hb : w.heap[b]? = some (.cells cs T fr)) (v : Value) :
    (w.setCell ⟨b, i, none⟩ v).heap[b]? = some (.cells (cs.setIfInBounds i v) T fr) := by
  simp [World.setCell, Array.getElem?_modify, hb]

section
variable {F G : Nat → Prop} {w w' : World} {b : Nat} {a : Bn} {ss fs : Value} {ps : List (Value × Value × Value)}

theorem BRep.len (h : BRep F w b a ss fs ps) : ps.length = a.slots.length := by
  have := h.rs.1
  rw [t3_len] at this
  omega

/-- what turns nothing of it -/
theorem BRep.kp (h : BRep F w b a ss fs ps) (hk : Kp G w w') (hd : ∀ q, F q → ¬ G q) : BRep F w' b a ss fs ps :=
  ⟨h.inF, fun k e => Nat.lt_of_lt_of_le (h.lt k e) hk.size, (hk.block b (h.lt b h.inF) (hd b h.inF)).trans h.hb, hk.row h.rs (fun g hg => hd g (h.fS g hg)), hk.row h.rf (fun g hg => hd g (h.fF g hg)), h.fS, h.fF,
    fun i s hs => by
      obtain ⟨v, h1, h2⟩ := h.el i s hs
      exact ⟨v, h1, byt_kp h2 hk (fun q hF hG _ _ => hd q hF hG)⟩⟩
theorem BRep.more (h : BRep F w b a ss fs ps) (hFG : ∀ k, F k → G k) (hlt : ∀ k, G k → k < w.heap.size) : BRep G w b a ss fs ps :=
  ⟨hFG b h.inF, hlt, h.hb, h.rs, h.rf, fun g hg => hFG g (h.fS g hg), fun g hg => hFG g (h.fF g hg), fun i s hs => by
      obtain ⟨v, h1, h2⟩ := h.el i s hs
      exact ⟨v, h1, byt_more h2 hFG⟩⟩

theorem BRep.neS (h : BRep F w b a ss fs ps) {g : Nat} (hg : ss.ownBlock = some g) : g ≠ b := by
  obtain ⟨_, _, _, e, _⟩ := row_blk h.rs hg
  exact blk_ne e h.hb (by decide)
theorem BRep.neF (h : BRep F w b a ss fs ps) {g : Nat} (hg : fs.ownBlock = some g) : g ≠ b := by
  obtain ⟨_, _, _, e, _⟩ := row_blk h.rf hg
  exact blk_ne e h.hb (by decide)
theorem BRep.neSF (h : BRep F w b a ss fs ps) {g g' : Nat} (hg : ss.ownBlock = some g) (hg' : fs.ownBlock = some g') : g ≠ g' := by
  obtain ⟨_, _, _, e, _⟩ := row_blk h.rs hg
  obtain ⟨_, _, _, e', _⟩ := row_blk h.rf hg'
  exact blk_ne e e' (by decide)

theorem row_set {base : Nat} {e : TypeId} {size : Nat} {v : Value} {n : Nat} {xs : List Value} (h : w.ownsRow base e size v n xs) {p : Addr} (hp : v.ownBlock ≠ some p.block) (u : Value) : (w.setCell p u).ownsRow base e size v n xs := by
  refine ⟨h.1, ?_⟩
  rcases h.2 with hn | ⟨g, cap, cur, hv, hb, hgg, rest⟩
  · exact .inl hn
  · refine .inr ⟨g, cap, cur, hv, hb, ?_, rest⟩
    rw [Below.heap_setCell _ _ _ _ (fun e => hp (by rw [hv, ← e]; rfl))]
    exact hgg

/-- a cell of the head is written: the count of bytes -/
theorem BRep.setUsed (h : BRep F w b a ss fs ps) (n : Nat) : BRep F (w.setCell ⟨b, 2, none⟩ (.int .i64 n)) b { a with used := n } ss fs ps ∧ Kp F w (w.setCell ⟨b, 2, none⟩ (.int .i64 n)) := by
  have hk : Kp (fun q => q = b) w (w.setCell ⟨b, 2, none⟩ (.int .i64 n)) := (Kp.refl _ w).setCell _ _ (.inl rfl)
  refine ⟨⟨h.inF, fun k e => by simpa [World.setCell] using h.lt k e, heap_set_here h.hb _, row_set h.rs (fun e => h.neS e rfl) _, row_set h.rf (fun e => h.neF e rfl) _, h.fS, h.fF, fun i s hs => ?_⟩, hk.mono fun q _ e => e ▸ h.inF⟩
  obtain ⟨v, h1, h2⟩ := h.el i s hs
  exact ⟨v, h1, byt_kp h2 hk (fun q _ e cs hc => by subst e; exact blk_ne hc h.hb (by decide) rfl)⟩

/-- the list of free ones is cut -/
theorem BRep.setFree (h : BRep F w b a ss fs ps) (l : List Nat) (v : Value) (hv : w.ownsRow 0 3 1 v l.length (nats l)) (hF : ∀ g, v.ownBlock = some g → F g) :
    BRep F (w.setCell ⟨b, 4, none⟩ v) b { a with free := l } ss v ps ∧ Kp F w (w.setCell ⟨b, 4, none⟩ v) := by
  have hk : Kp (fun q => q = b) w (w.setCell ⟨b, 4, none⟩ v) := (Kp.refl _ w).setCell _ _ (.inl rfl)
  refine ⟨⟨h.inF, fun k e => by simpa [World.setCell] using h.lt k e, heap_set_here h.hb _, row_set h.rs (fun e => h.neS e rfl) _, row_set hv (fun e => ?_) _, h.fS, hF, fun i s hs => ?_⟩, hk.mono fun q _ e => e ▸ h.inF⟩
  · obtain ⟨_, _, _, e', _⟩ := row_blk hv e
    exact blk_ne e' h.hb (by decide) rfl
  · obtain ⟨v, h1, h2⟩ := h.el i s hs
    exact ⟨v, h1, byt_kp h2 hk (fun q _ e cs hc => by subst e; exact blk_ne hc h.hb (by decide) rfl)⟩

/-- the list of slots is another -/
theorem BRep.setSlots (h : BRep F w b a ss fs ps) (l : List Sl) (v : Value) (qs : List (Value × Value × Value)) (hv : w.ownsRow 0 100 3 v l.length (t3 qs)) (hF : ∀ g, v.ownBlock = some g → F g)
    (hel : ∀ (i : Nat) (s : Sl), l[i]? = some s → ∃ u, qs[i]? = some (u, .int .i64 s.count, .int .i64 s.gen) ∧ BytesAt (Byt F w) w s.bs u) :
    BRep F (w.setCell ⟨b, 3, none⟩ v) b { a with slots := l } v fs qs ∧ Kp F w (w.setCell ⟨b, 3, none⟩ v) := by
  have hk : Kp (fun q => q = b) w (w.setCell ⟨b, 3, none⟩ v) := (Kp.refl _ w).setCell _ _ (.inl rfl)
  refine ⟨⟨h.inF, fun k e => by simpa [World.setCell] using h.lt k e, heap_set_here h.hb _, row_set hv (fun e => ?_) _, row_set h.rf (fun e => h.neF e rfl) _, hF, h.fF, fun i s hs => ?_⟩, hk.mono fun q _ e => e ▸ h.inF⟩
  · obtain ⟨_, _, _, e', _⟩ := row_blk hv e
    exact blk_ne e' h.hb (by decide) rfl
  · obtain ⟨v, h1, h2⟩ := hel i s hs
    exact ⟨v, h1, byt_kp h2 hk (fun q _ e cs hc => by subst e; exact blk_ne hc h.hb (by decide) rfl)⟩

/-- the cells of slot i -/
theorem BRep.slot (h : BRep F w b a ss fs ps) {i : Nat} {s : Sl} (hs : a.slots[i]? = some s) :
    ∃ g cap v, ss = .slice (some ⟨g, 0, none⟩) a.slots.length cap ∧ ps[i]? = some (v, .int .i64 s.count, .int .i64 s.gen) ∧ BytesAt (Byt F w) w s.bs v ∧
      w.cell? ⟨g, i * 3, none⟩ = some v ∧ w.cell? ⟨g, i * 3 + 1, none⟩ = some (.int .i64 s.count) ∧ w.cell? ⟨g, i * 3 + 2, none⟩ = some (.int .i64 s.gen) ∧ (∀ j, w.frozen? ⟨g, j, none⟩ = false) ∧ F g ∧ g ≠ b := by
  have hil := (List.getElem?_eq_some_iff.1 hs).1
  obtain ⟨v, h1, h2⟩ := h.el i s hs
  obtain ⟨g, cap, hv, _, _⟩ := h.rs.form (by omega)
  have hg : ss.ownBlock = some g := by rw [hv]; rfl
  have hrs := h.rs
  rw [hv] at hrs
  have h3 := t3_get ps i _ h1
  exact ⟨g, cap, v, hv, h1, h2, by rw [hrs.cellAt _ (by omega)]; exact h3.1, by rw [hrs.cellAt _ (by omega)]; exact h3.2.1, by rw [hrs.cellAt _ (by omega)]; exact h3.2.2, fun j => hrs.frozenAt j, h.fS g hg, h.neS hg⟩

/-- a cell of slot i is written -/
theorem BRep.setSlot (h : BRep F w b a ss fs ps) {i : Nat} {s s' : Sl} {v : Value} (hs : a.slots[i]? = some s) {g n cap : Nat} (hv : ss = .slice (some ⟨g, 0, none⟩) n cap) (hp : ps[i]? = some (v, .int .i64 s.count, .int .i64 s.gen))
    (j : Nat) (u v' : Value) (hj : (t3 ps).set j u = t3 (ps.set i (v', .int .i64 s'.count, .int .i64 s'.gen))) (hb' : BytesAt (Byt F w) w s'.bs v') :
    BRep F (w.setCell ⟨g, j, none⟩ u) b { a with slots := a.slots.set i s' } ss fs (ps.set i (v', .int .i64 s'.count, .int .i64 s'.gen)) ∧ Kp F w (w.setCell ⟨g, j, none⟩ u) := by
  have hg : ss.ownBlock = some g := by rw [hv]; rfl
  have hk : Kp (fun q => q = g) w (w.setCell ⟨g, j, none⟩ u) := (Kp.refl _ w).setCell _ _ (.inl rfl)
  obtain ⟨cap', cur, hv', hgg, _⟩ := row_blk h.rs hg
  have hby : ∀ {l : List UInt8} {x : Value}, BytesAt (Byt F w) w l x → BytesAt (Byt F (w.setCell ⟨g, j, none⟩ u)) (w.setCell ⟨g, j, none⟩ u) l x := fun hx =>
    byt_kp hx hk (fun q _ e cs hc => by subst e; exact blk_ne hc hgg (by decide) rfl)
  refine ⟨⟨h.inF, fun k e => by simpa [World.setCell] using h.lt k e, ?_, ?_, row_set h.rf (fun e => h.neSF hg e rfl) _, h.fS, h.fF, fun i' t ht => ?_⟩, hk.mono fun q _ e => e ▸ h.fS g hg⟩
  · rw [Below.heap_setCell _ _ _ _ (Ne.symm (h.neS hg))]
    exact h.hb
  · have hrs := h.rs
    rw [hv'] at hrs ⊢
    have := (hrs.stored j u).1
    rw [hj] at this
    rw [List.length_set]
    exact this
  · have hil := (List.getElem?_eq_some_iff.1 hs).1
    have hpl := (List.getElem?_eq_some_iff.1 hp).1
    by_cases e : i' = i
    · subst e
      rw [List.getElem?_set_self (by simpa using hil)] at ht
      injection ht with ht
      subst ht
      exact ⟨v', List.getElem?_set_self (by simpa using hpl), hby hb'⟩
    · rw [List.getElem?_set_ne (fun e' => e e'.symm)] at ht
      obtain ⟨x, h1, h2⟩ := h.el i' t ht
      exact ⟨x, by rw [List.getElem?_set_ne (fun e' => e e'.symm)]; exact h1, hby h2⟩
end
end Go.Proofs.Ytlnckpjpoaokjaa
