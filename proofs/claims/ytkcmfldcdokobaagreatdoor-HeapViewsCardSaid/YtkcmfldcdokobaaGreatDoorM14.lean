/- The binaries of a heap as plain data, and as they lie in memory. binary: copied, handle, find. -/
import Derived.Test.YtkcmfldcdokobaaGreatDoorM04
import Derived.Test.YtkcmfldcdokobaaGreatDoorM11
import Derived.RegionTactic
import Derived.BigQuiet
import Derived.Deep.QuietTactic
/- The binaries of a heap as plain data, and as they lie in memory. -/
namespace Go.Proofs.YtkcmfldcdokobaaGreatDoor
open Go.RowKit

/-- a slot: its bytes, how often it is held, its generation (of a slot that is free: the one that it will have) -/
structure Sl where
  bs : List UInt8
  count : Nat
  gen : Nat
structure Bn where
  most : Nat
  room : Nat
  used : Nat
  slots : List Sl
  free : List Nat

/-- rows of three cells -/
def t3 (l : List (Value × Value × Value)) : List Value := l.flatMap fun p => [p.1, p.2.1, p.2.2]
theorem t3_cons (p : Value × Value × Value) (l : List (Value × Value × Value)) : t3 (p :: l) = p.1 :: p.2.1 :: p.2.2 :: t3 l := rfl
theorem t3_len : ∀ (l : List (Value × Value × Value)), (t3 l).length = l.length * 3
  | [] => rfl
  | p :: l => by rw [t3_cons]; simp only [List.length_cons, t3_len l]; omega
theorem t3_snoc (l : List (Value × Value × Value)) (p : Value × Value × Value) : t3 (l ++ [p]) = t3 l ++ [p.1, p.2.1, p.2.2] := by simp [t3]
theorem t3_get : ∀ (l : List (Value × Value × Value)) (i : Nat) (p : Value × Value × Value), l[i]? = some p → (t3 l)[i * 3]? = some p.1 ∧ (t3 l)[i * 3 + 1]? = some p.2.1 ∧ (t3 l)[i * 3 + 2]? = some p.2.2
  | [], i, p, h => by simp at h
  | q :: l, 0, p, h => by
    simp at h
    subst h
    exact ⟨rfl, rfl, rfl⟩
  | q :: l, i + 1, p, h => by
    have ih := t3_get l i p (by simpa using h)
    have e : ∀ k, (t3 (q :: l))[(i + 1) * 3 + k]? = (t3 l)[i * 3 + k]? := by
      intro k
      rw [t3_cons, show (i + 1) * 3 + k = (i * 3 + k) + 1 + 1 + 1 by omega]
      simp
    exact ⟨by rw [← ih.1]; exact e 0, by rw [← ih.2.1]; exact e 1, by rw [← ih.2.2]; exact e 2⟩
theorem t3_set : ∀ (l : List (Value × Value × Value)) (i : Nat) (p : Value × Value × Value), l[i]? = some p → ∀ v,
    (t3 l).set (i * 3) v = t3 (l.set i (v, p.2.1, p.2.2)) ∧ (t3 l).set (i * 3 + 1) v = t3 (l.set i (p.1, v, p.2.2)) ∧ (t3 l).set (i * 3 + 2) v = t3 (l.set i (p.1, p.2.1, v))
  | [], i, p, h, v => by simp at h
  | q :: l, 0, p, h, v => by
    simp at h
    subst h
    simp [t3_cons]
  | q :: l, i + 1, p, h, v => by
    have ih := t3_set l i p (by simpa using h) v
    have e : ∀ k, (t3 (q :: l)).set ((i + 1) * 3 + k) v = q.1 :: q.2.1 :: q.2.2 :: (t3 l).set (i * 3 + k) v := by
      intro k
      rw [t3_cons, show (i + 1) * 3 + k = (i * 3 + k) + 1 + 1 + 1 by omega]
      rfl
    have e0 : (t3 (q :: l)).set ((i + 1) * 3) v = q.1 :: q.2.1 :: q.2.2 :: (t3 l).set (i * 3) v := e 0
    rw [e0, e 1, e 2, ih.1, ih.2.1, ih.2.2]
    exact ⟨rfl, rfl, rfl⟩

/-- a row of numbers -/
def nats (l : List Nat) : List Value := l.map fun (i : Nat) => Value.int .i64 (i : Int)
theorem nats_len (l : List Nat) : (nats l).length = l.length := by simp [nats]
theorem nats_get {l : List Nat} {i k : Nat} (h : l[i]? = some k) : (nats l)[i]? = some (.int .i64 k) := by simp [nats, h]

/-- the heap a lies in memory: its head in block b, its rows and the bytes in blocks of F -/
structure BRep (F : Nat → Prop) (w : World) (b : Nat) (a : Bn) (ss fs : Value) (ps : List (Value × Value × Value)) : Prop where
  inF : F b
  lt : ∀ k, F k → k < w.heap.size
  hb : w.heap[b]? = some (.cells #[.int .i64 a.most, .int .i64 a.room, .int .i64 a.used, ss, fs] 119 (0, 0))
  rs : w.ownsRow 0 161 3 ss a.slots.length (t3 ps)
  rf : w.ownsRow 0 3 1 fs a.free.length (nats a.free)
  fS : ∀ g, ss.ownBlock = some g → F g
  fF : ∀ g, fs.ownBlock = some g → F g
  el : ∀ (i : Nat) (s : Sl), a.slots[i]? = some s → ∃ v, ps[i]? = some (v, .int .i64 s.count, .int .i64 s.gen) ∧ BytesAt (Byt F w) w s.bs v

/-- a row's block -/
theorem row_blk {w : World} {base : Nat} {e : TypeId} {size : Nat} {v : Value} {n : Nat} {xs : List Value} (h : w.ownsRow base e size v n xs) {g : Nat} (hg : v.ownBlock = some g) :
    ∃ cap cur, v = .slice (some ⟨g, 0, none⟩) n cap ∧ w.heap[g]? = some (.cells cur e (0, 0)) ∧ n ≤ cap := by
  rcases h.2 with ⟨e, _⟩ | ⟨g', cap, cur, rfl, _, hh, hn, _⟩
  · rw [e] at hg; simp [Value.ownBlock] at hg
  · have : g' = g := by simpa [Value.ownBlock] using hg
    subst this
    exact ⟨cap, cur, rfl, hh, hn⟩
theorem blk_ne {w : World} {p q : Nat} {c d : Array Value} {s t : TypeId} {f g : Nat × Nat} (h : w.heap[p]? = some (.cells c s f)) (h' : w.heap[q]? = some (.cells d t g)) (hne : s ≠ t) : p ≠ q := by
  rintro rfl
  rw [h] at h'
  injection h' with h'
  injection h' with _ ht
  exact hne ht
theorem cell_of {w : World} {b : Nat} {cs : Array Value} {T : TypeId} {f : Nat × Nat} (h : w.heap[b]? = some (.cells cs T f)) (j : Nat) : w.cell? ⟨b, j, none⟩ = cs[j]? := cell_of_row w b j cs T f h
theorem frozen_of {w : World} {b : Nat} {cs : Array Value} {T : TypeId} (h : w.heap[b]? = some (.cells cs T (0, 0))) (j : Nat) : w.frozen? ⟨b, j, none⟩ = false := by simp [World.frozen?, h]
theorem heap_set_here {w : World} {b i : Nat} {cs : Array Value} {T : TypeId} {fr : Nat × Nat} (hb : w.heap[b]? = some (.cells cs T fr)) (v : Value) :
    (w.setCell ⟨b, i, none⟩ v).heap[b]? = some (.cells (cs.setIfInBounds i v) T fr) := by
  simp [World.setCell, Array.getElem?_modify, hb]

section
variable {F G : Nat → Prop} {w w' : World} {b : Nat} {a : Bn} {ss fs : Value} {ps : List (Value × Value × Value)}

theorem BRep.len (h : BRep F w b a ss fs ps) : ps.length = a.slots.length := by
  have := h.rs.1
  rw [t3_len] at this
  omega

/-- what turns nothing of it -/
theorem BRep.kp (h : BRep F w b a ss fs ps) (hk : Kp G w w') (hd : ∀ q, F q → ¬ G q) : BRep F w' b a ss fs ps :=
  ⟨h.inF, fun k e => Nat.lt_of_lt_of_le (h.lt k e) hk.size, (hk.block b (h.lt b h.inF) (hd b h.inF)).trans h.hb, hk.row h.rs (fun g hg => hd g (h.fS g hg)), hk.row h.rf (fun g hg => hd g (h.fF g hg)), h.fS, h.fF,
    fun i s hs => by
      obtain ⟨v, h1, h2⟩ := h.el i s hs
      exact ⟨v, h1, byt_kp h2 hk (fun q hF hG _ _ => hd q hF hG)⟩⟩
theorem BRep.more (h : BRep F w b a ss fs ps) (hFG : ∀ k, F k → G k) (hlt : ∀ k, G k → k < w.heap.size) : BRep G w b a ss fs ps :=
  ⟨hFG b h.inF, hlt, h.hb, h.rs, h.rf, fun g hg => hFG g (h.fS g hg), fun g hg => hFG g (h.fF g hg), fun i s hs => by
      obtain ⟨v, h1, h2⟩ := h.el i s hs
      exact ⟨v, h1, byt_more h2 hFG⟩⟩

theorem BRep.neS (h : BRep F w b a ss fs ps) {g : Nat} (hg : ss.ownBlock = some g) : g ≠ b := by
  obtain ⟨_, _, _, e, _⟩ := row_blk h.rs hg
  exact blk_ne e h.hb (by decide)
theorem BRep.neF (h : BRep F w b a ss fs ps) {g : Nat} (hg : fs.ownBlock = some g) : g ≠ b := by
  obtain ⟨_, _, _, e, _⟩ := row_blk h.rf hg
  exact blk_ne e h.hb (by decide)
theorem BRep.neSF (h : BRep F w b a ss fs ps) {g g' : Nat} (hg : ss.ownBlock = some g) (hg' : fs.ownBlock = some g') : g ≠ g' := by
  obtain ⟨_, _, _, e, _⟩ := row_blk h.rs hg
  obtain ⟨_, _, _, e', _⟩ := row_blk h.rf hg'
  exact blk_ne e e' (by decide)

theorem row_set {base : Nat} {e : TypeId} {size : Nat} {v : Value} {n : Nat} {xs : List Value} (h : w.ownsRow base e size v n xs) {p : Addr} (hp : v.ownBlock ≠ some p.block) (u : Value) : (w.setCell p u).ownsRow base e size v n xs := by
  refine ⟨h.1, ?_⟩
  rcases h.2 with hn | ⟨g, cap, cur, hv, hb, hgg, rest⟩
  · exact .inl hn
  · refine .inr ⟨g, cap, cur, hv, hb, ?_, rest⟩
    rw [Below.heap_setCell _ _ _ _ (fun e => hp (by rw [hv, ← e]; rfl))]
    exact hgg

/-- a cell of the head is written: the count of bytes -/
theorem BRep.setUsed (h : BRep F w b a ss fs ps) (n : Nat) : BRep F (w.setCell ⟨b, 2, none⟩ (.int .i64 n)) b { a with used := n } ss fs ps ∧ Kp F w (w.setCell ⟨b, 2, none⟩ (.int .i64 n)) := by
  have hk : Kp (fun q => q = b) w (w.setCell ⟨b, 2, none⟩ (.int .i64 n)) := (Kp.refl _ w).setCell _ _ (.inl rfl)
  refine ⟨⟨h.inF, fun k e => by simpa [World.setCell] using h.lt k e, heap_set_here h.hb _, row_set h.rs (fun e => h.neS e rfl) _, row_set h.rf (fun e => h.neF e rfl) _, h.fS, h.fF, fun i s hs => ?_⟩, hk.mono fun q _ e => e ▸ h.inF⟩
  obtain ⟨v, h1, h2⟩ := h.el i s hs
  exact ⟨v, h1, byt_kp h2 hk (fun q _ e cs hc => by subst e; exact blk_ne hc h.hb (by decide) rfl)⟩

/-- the list of free ones is cut -/
theorem BRep.setFree (h : BRep F w b a ss fs ps) (l : List Nat) (v : Value) (hv : w.ownsRow 0 3 1 v l.length (nats l)) (hF : ∀ g, v.ownBlock = some g → F g) :
    BRep F (w.setCell ⟨b, 4, none⟩ v) b { a with free := l } ss v ps ∧ Kp F w (w.setCell ⟨b, 4, none⟩ v) := by
  have hk : Kp (fun q => q = b) w (w.setCell ⟨b, 4, none⟩ v) := (Kp.refl _ w).setCell _ _ (.inl rfl)
  refine ⟨⟨h.inF, fun k e => by simpa [World.setCell] using h.lt k e, heap_set_here h.hb _, row_set h.rs (fun e => h.neS e rfl) _, row_set hv (fun e => ?_) _, h.fS, hF, fun i s hs => ?_⟩, hk.mono fun q _ e => e ▸ h.inF⟩
  · obtain ⟨_, _, _, e', _⟩ := row_blk hv e
    exact blk_ne e' h.hb (by decide) rfl
  · obtain ⟨v, h1, h2⟩ := h.el i s hs
    exact ⟨v, h1, byt_kp h2 hk (fun q _ e cs hc => by subst e; exact blk_ne hc h.hb (by decide) rfl)⟩

/-- the list of slots is another -/
theorem BRep.setSlots (h : BRep F w b a ss fs ps) (l : List Sl) (v : Value) (qs : List (Value × Value × Value)) (hv : w.ownsRow 0 161 3 v l.length (t3 qs)) (hF : ∀ g, v.ownBlock = some g → F g)
    (hel : ∀ (i : Nat) (s : Sl), l[i]? = some s → ∃ u, qs[i]? = some (u, .int .i64 s.count, .int .i64 s.gen) ∧ BytesAt (Byt F w) w s.bs u) :
    BRep F (w.setCell ⟨b, 3, none⟩ v) b { a with slots := l } v fs qs ∧ Kp F w (w.setCell ⟨b, 3, none⟩ v) := by
  have hk : Kp (fun q => q = b) w (w.setCell ⟨b, 3, none⟩ v) := (Kp.refl _ w).setCell _ _ (.inl rfl)
  refine ⟨⟨h.inF, fun k e => by simpa [World.setCell] using h.lt k e, heap_set_here h.hb _, row_set hv (fun e => ?_) _, row_set h.rf (fun e => h.neF e rfl) _, hF, h.fF, fun i s hs => ?_⟩, hk.mono fun q _ e => e ▸ h.inF⟩
  · obtain ⟨_, _, _, e', _⟩ := row_blk hv e
    exact blk_ne e' h.hb (by decide) rfl
  · obtain ⟨v, h1, h2⟩ := hel i s hs
    exact ⟨v, h1, byt_kp h2 hk (fun q _ e cs hc => by subst e; exact blk_ne hc h.hb (by decide) rfl)⟩

/-- the cells of slot i -/
theorem BRep.slot (h : BRep F w b a ss fs ps) {i : Nat} {s : Sl} (hs : a.slots[i]? = some s) :
    ∃ g cap v, ss = .slice (some ⟨g, 0, none⟩) a.slots.length cap ∧ ps[i]? = some (v, .int .i64 s.count, .int .i64 s.gen) ∧ BytesAt (Byt F w) w s.bs v ∧
      w.cell? ⟨g, i * 3, none⟩ = some v ∧ w.cell? ⟨g, i * 3 + 1, none⟩ = some (.int .i64 s.count) ∧ w.cell? ⟨g, i * 3 + 2, none⟩ = some (.int .i64 s.gen) ∧ (∀ j, w.frozen? ⟨g, j, none⟩ = false) ∧ F g ∧ g ≠ b := by
  have hil := (List.getElem?_eq_some_iff.1 hs).1
  obtain ⟨v, h1, h2⟩ := h.el i s hs
  obtain ⟨g, cap, hv, _, _⟩ := h.rs.form (by omega)
  have hg : ss.ownBlock = some g := by rw [hv]; rfl
  have hrs := h.rs
  rw [hv] at hrs
  have h3 := t3_get ps i _ h1
  exact ⟨g, cap, v, hv, h1, h2, by rw [hrs.cellAt _ (by omega)]; exact h3.1, by rw [hrs.cellAt _ (by omega)]; exact h3.2.1, by rw [hrs.cellAt _ (by omega)]; exact h3.2.2, fun j => hrs.frozenAt j, h.fS g hg, h.neS hg⟩

/-- a cell of slot i is written -/
theorem BRep.setSlot (h : BRep F w b a ss fs ps) {i : Nat} {s s' : Sl} {v : Value} (hs : a.slots[i]? = some s) {g n cap : Nat} (hv : ss = .slice (some ⟨g, 0, none⟩) n cap) (hp : ps[i]? = some (v, .int .i64 s.count, .int .i64 s.gen))
    (j : Nat) (u v' : Value) (hj : (t3 ps).set j u = t3 (ps.set i (v', .int .i64 s'.count, .int .i64 s'.gen))) (hb' : BytesAt (Byt F w) w s'.bs v') :
    BRep F (w.setCell ⟨g, j, none⟩ u) b { a with slots := a.slots.set i s' } ss fs (ps.set i (v', .int .i64 s'.count, .int .i64 s'.gen)) ∧ Kp F w (w.setCell ⟨g, j, none⟩ u) := by
  have hg : ss.ownBlock = some g := by rw [hv]; rfl
  have hk : Kp (fun q => q = g) w (w.setCell ⟨g, j, none⟩ u) := (Kp.refl _ w).setCell _ _ (.inl rfl)
  obtain ⟨cap', cur, hv', hgg, _⟩ := row_blk h.rs hg
  have hby : ∀ {l : List UInt8} {x : Value}, BytesAt (Byt F w) w l x → BytesAt (Byt F (w.setCell ⟨g, j, none⟩ u)) (w.setCell ⟨g, j, none⟩ u) l x := fun hx =>
    byt_kp hx hk (fun q _ e cs hc => by subst e; exact blk_ne hc hgg (by decide) rfl)
  refine ⟨⟨h.inF, fun k e => by simpa [World.setCell] using h.lt k e, ?_, ?_, row_set h.rf (fun e => h.neSF hg e rfl) _, h.fS, h.fF, fun i' t ht => ?_⟩, hk.mono fun q _ e => e ▸ h.fS g hg⟩
  · rw [Below.heap_setCell _ _ _ _ (Ne.symm (h.neS hg))]
    exact h.hb
  · have hrs := h.rs
    rw [hv'] at hrs ⊢
    have := (hrs.stored j u).1
    rw [hj] at this
    rw [List.length_set]
    exact this
  · have hil := (List.getElem?_eq_some_iff.1 hs).1
    have hpl := (List.getElem?_eq_some_iff.1 hp).1
    by_cases e : i' = i
    · subst e
      rw [List.getElem?_set_self (by simpa using hil)] at ht
      injection ht with ht
      subst ht
      exact ⟨v', List.getElem?_set_self (by simpa using hpl), hby hb'⟩
    · rw [List.getElem?_set_ne (fun e' => e e'.symm)] at ht
      obtain ⟨x, h1, h2⟩ := h.el i' t ht
      exact ⟨x, by rw [List.getElem?_set_ne (fun e' => e e'.symm)]; exact h1, hby h2⟩
end
end Go.Proofs.YtkcmfldcdokobaaGreatDoor

/- binary: copied, handle, find. -/
namespace Go.Proofs.YtkcmfldcdokobaaGreatDoor
open Go.RowKit

theorem Tryz.sizeByte : (Tryz.prog.info? 5).map (·.size) = some 1 := by kernel_rfl

set_option maxRecDepth 100000 in
set_option maxHeartbeats 400000 in
theorem copied_any {F : Nat → Prop} {w : World} {l : List UInt8} {v : Value} (h : BytesAt F w l v) :
    Calls Tryz.prog 140 #[v] w fun e w' => ∃ v', e = .returned v' ∧ BytesAt (Byt (Own w.heap.size w') w') w' l v' ∧ Kp (fun _ => False) w w' := by
  obtain ⟨po, cap, rfl, h2, h3, h4⟩ := h
  obtain ⟨i0, hi, hz0, hz1, hz2⟩ := info_parts Tryz.infoByte
  have hsz := Tryz.sizeByte
  have hone := bcells_one l
  have hb1 : i0.bytes * l.length ≤ 281474976710656 := by rw [hz2]; omega
  have hb2 : l.length ≤ maxLen := by unfold maxLen; omega
  obtain ⟨n, hn, hn2⟩ : ∃ n, l.length = n ∧ n ≤ 140737488351232 := ⟨_, rfl, h3⟩
  rw [hn] at hb1 hb2 h2 h3 ⊢
  have Hc := Lib.hid (And.intro hn (And.intro hb1 (And.intro hb2 h4)))
  have hll : (bcells l).length = n := by rw [bcells_len, hn]
  obtain ⟨cs, hcs⟩ : ∃ cs, bcells l = cs := ⟨_, rfl⟩
  rw [hcs] at hone hll
  have Hl := Lib.hid (And.intro hcs hll)
  clear hb1 hb2 hn h4 hcs hll
  go_enter Tryz.func140, Tryz.ntmps140
  go_wp2_with (at_make; refine wpList_make_full _ rfl _ _ 39 rfl w.heap.size 5 i0 (.int .u8 0) 1 Tryz.underlying39 hi hz0 hz1 .i64 .i64 _ _ n rfl rfl rfl rfl Hc.out.2.1 Hc.out.2.2.1 (Nat.le_refl _) ?_; intro w1 hown hgrow; refine Hid.out ?_)
  obtain ⟨cur, hg, hcs1⟩ : ∃ cur : List Value, w1.heap[w.heap.size]? = some (.cells cur.toArray 5 (0, 0)) ∧ cur.length = n := by
    rcases hown.2 with ⟨e, _⟩ | ⟨g, cp, cur, e, _, hh, h5, _, h6, _⟩
    · cases e
    · injection e with e e1 e2
      injection e with e
      injection e with e
      subst e
      exact ⟨cur.toList, by simpa using hh, by simp; omega⟩
  have hbel : Below w.heap.size w w1 := ⟨hgrow.os, hgrow.tape, hgrow.output, hgrow.size, fun k hk => hgrow.block k hk (by simp)⟩
  have hsrc : 0 < cs.length → (some (⟨w.heap.size, 0, none⟩ : Addr)) = some ⟨w.heap.size, 0, none⟩ ∧ ∃ ad, po = some ad ∧ ∀ j v, cs[j]? = some v → w1.cell? (ad.add j) = some v := by
    intro hpos
    refine ⟨rfl, ?_⟩
    have hl0 : 0 < l.length := by have := Hl.out.2; have := Hc.out.1; omega
    obtain ⟨b, off, rfl, _, _⟩ := Hc.out.2.2.2 0 l[0] (List.getElem?_eq_getElem hl0)
    refine ⟨_, rfl, fun j v hj => ?_⟩
    rw [← Hl.out.1, bcells, List.getElem?_map] at hj
    obtain ⟨c, hc, rfl⟩ := Option.map_eq_some_iff.1 hj
    obtain ⟨b2, off2, e2, _, hcell⟩ := Hc.out.2.2.2 j c hc
    injection e2 with e2
    rw [e2, Go.WideShapes.add_plain, hbel.cell (p := ⟨b2, off2 + j, none⟩) (World.block_lt_of_cell? _ _ hcell)]
    exact hcell
  have Hs := Lib.hid (And.intro hg (And.intro hcs1 (And.intro hbel hsrc)))
  clear hg hcs1 hbel hsrc hown hgrow
  refine Lib.hid ?_
  go_wp2_with (with_reducible refine wpList_copy_splice rfl _ _ 39 39 rfl 5 Tryz.underlying39 hsz (some ⟨w.heap.size, 0, none⟩) po n n n cap rfl rfl w.heap.size 0 cur 5 Hs.out.1 cs (by rw [Hl.out.2]; simp) Hs.out.2.2.2 (by rw [Hl.out.2, Hs.out.2.1]; omega) hone w.heap.size w Hs.out.2.2.1 (Nat.le_refl _) ?_; intro w2 hg2 hb2; refine Hid.out ?_)
  have hfin : BytesAt (Byt (Own w.heap.size w2) w2) w2 l (.slice (some ⟨w.heap.size, 0, none⟩) n n) ∧ Kp (fun _ => False) w w2 := by
    have hsp : splice cur 0 cs = cs := by simp [splice, Hl.out.2, Hs.out.2.1]
    have hgg := hg2.out
    rw [hsp] at hgg
    refine ⟨⟨_, n, by rw [Hc.out.1], by have := Hc.out.1; omega, by have := Hc.out.1; omega, fun i c hic => ⟨w.heap.size, 0, rfl, ⟨⟨Nat.le_refl _, (Array.getElem?_eq_some_iff.1 hgg).1⟩, ⟨_, hgg⟩⟩, ?_⟩⟩, below_kp hb2⟩
    rw [cell_of hgg, Nat.zero_add, ← Hl.out.1]
    simpa using bcells_get hic
  have Hf := Lib.hid hfin
  clear hfin hg2 hb2
  refine Lib.hid ?_
  go_wp2_with fail
  go_ret
  exact ⟨_, rfl, Hf.out⟩

section
variable {F G : Nat → Prop} {w w' : World} {b : Nat} {a : Bn} {ss fs : Value} {ps : List (Value × Value × Value)}

theorem BRep.cells (h : BRep F w b a ss fs ps) : w.cell? ⟨b, 0, none⟩ = some (.int .i64 a.most) ∧ w.cell? ⟨b, 1, none⟩ = some (.int .i64 a.room) ∧ w.cell? ⟨b, 2, none⟩ = some (.int .i64 a.used) ∧
    w.cell? ⟨b, 3, none⟩ = some ss ∧ w.cell? ⟨b, 4, none⟩ = some fs ∧ ∀ j, w.frozen? ⟨b, j, none⟩ = false :=
  ⟨by rw [cell_of h.hb]; rfl, by rw [cell_of h.hb]; rfl, by rw [cell_of h.hb]; rfl, by rw [cell_of h.hb]; rfl, by rw [cell_of h.hb]; rfl, fun j => frozen_of h.hb j⟩

set_option maxHeartbeats 400000 in
theorem handle_any (h : BRep F w b a ss fs ps) {i : Nat} {s : Sl} (hs : a.slots[i]? = some s) (hL : a.slots.length ≤ 4096) (hg : s.gen ≤ 1000000000000000) :
    Calls Tryz.prog 68 #[.pointer (some ⟨b, 0, none⟩), .int .i64 i] w fun e w' => e = .returned (.int .i64 (i + 4096 * s.gen)) ∧ ∃ k, w' = w.drewN k := by
  obtain ⟨_, _, _, c3, _, _⟩ := h.cells
  obtain ⟨g, cap, v, rfl, _, _, d0, d1, d2, _, _, _⟩ := h.slot hs
  have hil := (List.getElem?_eq_some_iff.1 hs).1
  obtain ⟨L, hLe, hL1, hL2⟩ : ∃ L, a.slots.length = L ∧ L ≤ 4096 ∧ i < L := ⟨_, rfl, hL, hil⟩
  obtain ⟨q, hq, hq2⟩ : ∃ q, s.gen = q ∧ q ≤ 1000000000000000 := ⟨_, rfl, hg⟩
  rw [hLe] at c3
  rw [hq] at d2 ⊢
  clear hs hL hil hLe h hg hq
  go_enter Tryz.func68, Tryz.ntmps68
  go_wp2
  go_ret
  exact ⟨rfl, 0, rfl⟩

set_option maxHeartbeats 400000 in
theorem find_ok (h : BRep F w b a ss fs ps) {i : Nat} {s : Sl} (hs : a.slots[i]? = some s) (hL : a.slots.length ≤ 4096) (hc : 0 < s.count) (n : Int) (hn : 0 ≤ n) (hnM : n ≤ 9223372036854775807) (e1 : n % 4096 = i) (e2 : n / 4096 = s.gen)
    {g cap : Nat} (hv : ss = .slice (some ⟨g, 0, none⟩) a.slots.length cap) :
    Calls Tryz.prog 69 #[.pointer (some ⟨b, 0, none⟩), .int .i64 n] w fun e w' => e = .returned (.tuple #[.pointer (some ⟨g, i * 3, none⟩), .nilIface]) ∧ w = w' := by
  obtain ⟨_, _, _, c3, _, _⟩ := h.cells
  obtain ⟨g', cap', v, hv', _, _, d0, d1, d2, _, _, _⟩ := h.slot hs
  rw [hv] at hv'
  injection hv' with hv' _ hv''
  injection hv' with hv'
  injection hv' with hv'
  subst hv' hv'' hv
  have hil := (List.getElem?_eq_some_iff.1 hs).1
  obtain ⟨L, hLe, hL1, hL2⟩ : ∃ L, a.slots.length = L ∧ L ≤ 4096 ∧ i < L := ⟨_, rfl, hL, hil⟩
  obtain ⟨q, hq⟩ : ∃ q, s.gen = q := ⟨_, rfl⟩
  obtain ⟨k, hk, hk2⟩ : ∃ k, s.count = k ∧ 0 < k := ⟨_, rfl, hc⟩
  rw [hLe] at c3
  rw [hq] at d2 e2
  rw [hk] at d1
  have hk3 : ((k : Int) == 0) = false := by simp; omega
  clear hs hL hil hLe h hq hc hk
  go_enter Tryz.func69, Tryz.ntmps69
  go_wp2
  go_ret2
  exact ⟨rfl, rfl⟩

/-- the handle n is good: it is slot i's, which is s -/
structure FOk (a : Bn) (n : Int) (i : Nat) (s : Sl) : Prop where
  lo : 0 ≤ n
  at' : n % 4096 = i
  slot : a.slots[i]? = some s
  gen : n / 4096 = s.gen
  held : 0 < s.count
/-- the handle n is not good, for the reason k -/
def FBad (a : Bn) (n k : Int) : Prop :=
  (k = 3 ∧ (n < 0 ∨ (a.slots.length : Int) ≤ n % 4096 ∨ ∃ (i : Nat) (s : Sl), n % 4096 = i ∧ a.slots[i]? = some s ∧ (s.gen : Int) < n / 4096)) ∨
  (k = 4 ∧ 0 ≤ n ∧ ∃ (i : Nat) (s : Sl), n % 4096 = i ∧ a.slots[i]? = some s ∧ (n / 4096 < s.gen ∨ (n / 4096 = s.gen ∧ s.count = 0)))
theorem FBad.kind {a : Bn} {n k : Int} (h : FBad a n k) : k ≠ 0 ∧ (k = 3 ∨ k = 4) := by rcases h with ⟨h, _⟩ | ⟨h, _⟩ <;> omega
theorem found_any (a : Bn) (n : Int) : (∃ i s, FOk a n i s) ∨ ∃ k, FBad a n k := by
  by_cases h0 : n < 0
  · exact .inr ⟨3, .inl ⟨rfl, .inl h0⟩⟩
  · by_cases h1 : (a.slots.length : Int) ≤ n % 4096
    · exact .inr ⟨3, .inl ⟨rfl, .inr (.inl h1)⟩⟩
    · obtain ⟨i, hi⟩ : ∃ i : Nat, n % 4096 = i := ⟨(n % 4096).toNat, by omega⟩
      have hl : i < a.slots.length := by omega
      have hs : a.slots[i]? = some a.slots[i] := List.getElem?_eq_getElem hl
      by_cases h2 : (a.slots[i].gen : Int) < n / 4096
      · exact .inr ⟨3, .inl ⟨rfl, .inr (.inr ⟨i, _, hi, hs, h2⟩)⟩⟩
      · by_cases h3 : n / 4096 < a.slots[i].gen
        · exact .inr ⟨4, .inr ⟨rfl, by omega, i, _, hi, hs, .inl h3⟩⟩
        · by_cases h4 : a.slots[i].count = 0
          · exact .inr ⟨4, .inr ⟨rfl, by omega, i, _, hi, hs, .inr ⟨by omega, h4⟩⟩⟩
          · exact .inl ⟨i, _, by omega, hi, hs, by omega, by omega⟩

theorem err_k {k : Int} (j : Int) (h : k = j) : Ending.returned (.tuple #[.pointer none, .iface 67 (.int .i64 j)]) = .returned (.tuple #[.pointer none, .iface 67 (.int .i64 k)]) := by rw [h]

set_option maxHeartbeats 1000000 in
theorem find_bad (h : BRep F w b a ss fs ps) (hL : a.slots.length ≤ 4096) (n k : Int) (hnm : -9223372036854775808 ≤ n) (hnM : n ≤ 9223372036854775807) (hbad : FBad a n k) :
    Calls Tryz.prog 69 #[.pointer (some ⟨b, 0, none⟩), .int .i64 n] w fun e w' => e = .returned (.tuple #[.pointer none, .iface 67 (.int .i64 k)]) ∧ w = w' := by
  obtain ⟨_, _, _, c3, _, _⟩ := h.cells
  by_cases h0 : n < 0
  · have hk : k = 3 := by rcases hbad with ⟨e, _⟩ | ⟨_, e, _⟩ <;> omega
    have Hk := Lib.hid hk
    clear hk hbad h hL
    go_enter Tryz.func69, Tryz.ntmps69
    go_wp2
    go_ret2
    exact ⟨err_k 3 Hk.out, rfl⟩
  · have h0' : 0 ≤ n := by omega
    clear h0
    obtain ⟨i, hi⟩ : ∃ i : Nat, n % 4096 = i := ⟨(n % 4096).toNat, by omega⟩
    obtain ⟨po, cap, hv⟩ : ∃ po cap, ss = .slice po a.slots.length cap := by
      rcases h.rs.2 with ⟨e, e0⟩ | ⟨g, cap, _, e, _⟩
      · exact ⟨none, 0, by rw [e, e0]⟩
      · exact ⟨_, cap, e⟩
    obtain ⟨L, hLe, hL1⟩ : ∃ L, a.slots.length = L ∧ L ≤ 4096 := ⟨_, rfl, hL⟩
    by_cases h1 : L ≤ i
    · have hk : k = 3 := by
        rcases hbad with ⟨e, _⟩ | ⟨_, _, i', s, e1, e2, _⟩
        · exact e
        · have := (List.getElem?_eq_some_iff.1 e2).1; omega
      have Hk := Lib.hid hk
      rw [hv, hLe] at c3
      have h1' : (L : Int) ≤ i := by omega
      clear hk hbad h hL hv hLe
      go_enter Tryz.func69, Tryz.ntmps69
      go_wp2
      go_ret2
      exact ⟨err_k 3 Hk.out, rfl⟩
    · have hs : a.slots[i]? = some (a.slots[i]'(by omega)) := List.getElem?_eq_getElem (by omega)
      obtain ⟨s, hse⟩ : ∃ s, (a.slots[i]'(by omega)) = s := ⟨_, rfl⟩
      rw [hse] at hs
      obtain ⟨g, cap', v, hv', _, _, d0, d1, d2, _, _, _⟩ := h.slot hs
      obtain ⟨q, hq⟩ : ∃ q, s.gen = q := ⟨_, rfl⟩
      obtain ⟨c, hc⟩ : ∃ c, s.count = c := ⟨_, rfl⟩
      obtain ⟨m, hm, hm0⟩ : ∃ m : Int, n / 4096 = m ∧ 0 ≤ m := ⟨_, rfl, by omega⟩
      have hk : (k = 3 ∧ (q : Int) < m) ∨ (k = 4 ∧ m < q) ∨ (k = 4 ∧ m = q ∧ c = 0) := by
        rcases hbad with ⟨e, e3⟩ | ⟨e, _, i', s', e1, e2, e3⟩
        · rcases e3 with e3 | e3 | ⟨i', s', e1, e2, e3⟩
          · omega
          · omega
          · obtain rfl : i' = i := by omega
            rw [hs] at e2; injection e2 with e2; subst e2
            exact .inl ⟨e, by omega⟩
        · obtain rfl : i' = i := by omega
          rw [hs] at e2; injection e2 with e2; subst e2
          rcases e3 with e3 | ⟨e3, e4⟩
          · exact .inr (.inl ⟨e, by omega⟩)
          · exact .inr (.inr ⟨e, by omega, by omega⟩)
      rw [hv', hLe] at c3
      rw [hq] at d2
      rw [hc] at d1
      have hil : i < L := by omega
      clear hbad h hL hv hLe hs hq hc h1 hse
      rcases hk with ⟨hk, h3⟩ | ⟨hk, h3⟩ | ⟨hk, rfl, rfl⟩
      · have Hk := Lib.hid hk
        clear hk
        go_enter Tryz.func69, Tryz.ntmps69
        go_wp2
        go_ret2
        exact ⟨err_k 3 Hk.out, rfl⟩
      · have Hk := Lib.hid hk
        clear hk
        go_enter Tryz.func69, Tryz.ntmps69
        go_wp2
        go_ret2
        exact ⟨err_k 4 Hk.out, rfl⟩
      · have Hk := Lib.hid hk
        clear hk
        go_enter Tryz.func69, Tryz.ntmps69
        go_wp2
        go_ret2
        exact ⟨err_k 4 Hk.out, rfl⟩
end
end Go.Proofs.YtkcmfldcdokobaaGreatDoor
