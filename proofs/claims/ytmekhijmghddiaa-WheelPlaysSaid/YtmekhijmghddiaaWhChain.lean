/- A wheel's slots in memory: chains of timers. -/
import Derived.Test.YtmekhijmghddiaaWhPure
import Derived.Test.YtmekhijmghddiaaFrame
import Derived.Test.YtmekhijmghddiaaWide
import Derived.Test.YtmekhijmghddiaaProg
import Derived.WalkKit
import Derived.Lib.Hide
import Derived.RegionTactic
import Derived.Deep.LoopGhost
import Derived.BigQuiet
import Derived.Deep.QuietTactic
import Derived.StillTailTactics
namespace Go.Proofs.Ytmekhijmghddiaa
open Go.RowKit

/-- a timer, and the block in which it lies -/
structure Tm where
  id : Nat
  wht : Int
  due : Nat
  blk : Nat
def tptr (p : Option Nat) : Value := .pointer (p.map fun g => ⟨g, 0, none⟩)
def tcells (t : Tm) (p q : Option Nat) : Array Value := #[.int .i64 (t.id : Nat), .int .i64 t.wht, .int .i64 (t.due : Nat), tptr p, tptr q]
def Nd (w : World) (t : Tm) (p q : Option Nat) : Prop := w.heap[t.blk]? = some (.cells (tcells t p q) 94 (0, 0))
def hdOr (l : List Tm) (q : Option Nat) : Option Nat := match l with | [] => q | t :: _ => some t.blk
def lsOr (p : Option Nat) (l : List Tm) : Option Nat := match l with | [] => p | t :: l => lsOr (some t.blk) l
def Lnk (w : World) : Option Nat → List Tm → Option Nat → Prop
  | _, [], _ => True
  | p, t :: l, q => Nd w t p (hdOr l q) ∧ Lnk w (some t.blk) l q

section
variable {w w' : World} {p q : Option Nat} {l l1 l2 : List Tm} {t : Tm}
theorem hdOr_append (l1 l2 : List Tm) (q : Option Nat) : hdOr (l1 ++ l2) q = hdOr l1 (hdOr l2 q) := by cases l1 <;> rfl
theorem lsOr_snoc (p : Option Nat) (l : List Tm) (t : Tm) : lsOr p (l ++ [t]) = some t.blk := by
  induction l generalizing p with
  | nil => rfl
  | cons a l ih => exact ih _
theorem Lnk.append : ∀ {l1 : List Tm} {p : Option Nat}, Lnk w p (l1 ++ l2) q ↔ Lnk w p l1 (hdOr l2 q) ∧ Lnk w (lsOr p l1) l2 q
  | [], p => by simp [Lnk, lsOr]
  | t :: l1, p => by
    simp only [List.cons_append, Lnk, hdOr_append, lsOr]
    rw [Lnk.append (l1 := l1)]
    exact ⟨fun ⟨a, b, c⟩ => ⟨⟨a, b⟩, c⟩, fun ⟨⟨a, b⟩, c⟩ => ⟨a, b, c⟩⟩
theorem Lnk.same : ∀ {l : List Tm} {p : Option Nat}, (∀ t ∈ l, w'.heap[t.blk]? = w.heap[t.blk]?) → Lnk w p l q → Lnk w' p l q
  | [], _, _, _ => trivial
  | t :: l, p, hs, h => ⟨by unfold Nd; rw [hs t (by simp)]; exact h.1, Lnk.same (fun x hx => hs x (by simp [hx])) h.2⟩
theorem Lnk.mem : ∀ {l : List Tm} {p : Option Nat}, Lnk w p l q → t ∈ l → ∃ p' q', Nd w t p' q'
  | [], _, _, hm => by simp at hm
  | a :: l, p, h, hm => by
    rcases List.mem_cons.1 hm with rfl | hm
    · exact ⟨_, _, h.1⟩
    · exact Lnk.mem h.2 hm
theorem Nd.facts (h : Nd w t p q) : w.cell? ⟨t.blk, 0, none⟩ = some (.int .i64 (t.id : Nat)) ∧ w.cell? ⟨t.blk, 1, none⟩ = some (.int .i64 t.wht) ∧ w.cell? ⟨t.blk, 2, none⟩ = some (.int .i64 (t.due : Nat)) ∧
    w.cell? ⟨t.blk, 3, none⟩ = some (tptr p) ∧ w.cell? ⟨t.blk, 4, none⟩ = some (tptr q) ∧ (∀ o, w.frozen? ⟨t.blk, o, none⟩ = false) ∧ t.blk < w.heap.size := by
  refine ⟨?_, ?_, ?_, ?_, ?_, fun o => by simp [World.frozen?, show w.heap[t.blk]? = _ from h], (Array.getElem?_eq_some_iff.1 h).1⟩ <;> (rw [cell_of_row w t.blk _ _ _ _ h]; rfl)
theorem wh_heap_set {w : World} {g i : Nat} {cur : Array Value} {t : TypeId} {f : Nat × Nat} (h0 : w.heap[g]? = some (.cells cur t f)) (x : Value) : (w.setCell ⟨g, i, none⟩ x).heap[g]? = some (.cells (cur.setIfInBounds i x) t f) := by
  rw [setCell_eq_setRow w g i cur t f x h0, setRow_heap w g cur _ t f h0]
theorem Nd.ahead (h : Nd w t p q) (p' : Option Nat) : Nd (w.setCell ⟨t.blk, 3, none⟩ (tptr p')) t p' q := (wh_heap_set h _).trans rfl
theorem Nd.behind (h : Nd w t p q) (q' : Option Nat) : Nd (w.setCell ⟨t.blk, 4, none⟩ (tptr q')) t p q' := (wh_heap_set h _).trans rfl
theorem heap_other {w : World} {g k i : Nat} {v : Value} (h : k ≠ g) : (w.setCell ⟨g, i, none⟩ v).heap[k]? = w.heap[k]? := Below.heap_setCell _ _ _ _ h
theorem Nd.other (h : Nd w t p q) {g i : Nat} {v : Value} (hne : t.blk ≠ g) : Nd (w.setCell ⟨g, i, none⟩ v) t p q := by unfold Nd; rw [heap_other hne]; exact h
theorem Lnk.other (h : Lnk w p l q) {g i : Nat} {v : Value} (hne : ∀ t ∈ l, t.blk ≠ g) : Lnk (w.setCell ⟨g, i, none⟩ v) p l q := h.same fun t ht => heap_other (hne t ht)
end

/-- a wheel's slots: chains of timers, each named ahead and behind -/
structure Chn (w : World) (F : Nat → Prop) (b : Nat) (hv : List Value) (ch : Nat → List Tm) : Prop where
  row : ∃ cs : Array Value, w.heap[b]? = some (.cells cs 85 (0, 0)) ∧ (∀ (i : Nat) (v : Value), hv[i]? = some v → cs[i]? = some v) ∧ ∀ s, s < 320 → cs[4 + s]? = some (tptr (hdOr (ch s) none))
  four : hv.length = 4
  lk : ∀ s, s < 320 → Lnk w none (ch s) none
  nd : ∀ s, s < 320 → ((ch s).map Tm.blk).Nodup
  ap : ∀ s s', s < 320 → s' < 320 → ∀ t ∈ ch s, ∀ t' ∈ ch s', t.blk = t'.blk → s = s'
  inb : F b
  inF : ∀ s, s < 320 → ∀ t ∈ ch s, F t.blk
  lt : ∀ k, F k → k < w.heap.size

section
variable {F G : Nat → Prop} {w w' : World} {b : Nat} {hv : List Value} {ch : Nat → List Tm}
theorem Chn.kp (h : Chn w F b hv ch) (hk : Kp G w w') (hd : ∀ k, F k → ¬ G k) : Chn w' F b hv ch := by
  have hb : ∀ k, F k → w'.heap[k]? = w.heap[k]? := fun k hf => hk.block k (h.lt k hf) (hd k hf)
  obtain ⟨cs, h1, h2, h3⟩ := h.row
  exact ⟨⟨cs, (hb b h.inb).trans h1, h2, h3⟩, h.four, fun s hs => (h.lk s hs).same fun t ht => hb _ (h.inF s hs t ht), h.nd, h.ap, h.inb, h.inF, fun k hf => Nat.lt_of_lt_of_le (h.lt k hf) hk.size⟩
theorem Chn.same (h : Chn w F b hv ch) (hk : Kp (fun _ => False) w w') : Chn w' F b hv ch := h.kp hk (fun _ _ e => e)
theorem Chn.more (h : Chn w F b hv ch) (hF : ∀ k, F k → G k) (hG : ∀ k, G k → k < w.heap.size) : Chn w G b hv ch :=
  ⟨h.row, h.four, h.lk, h.nd, h.ap, hF _ h.inb, fun s hs t ht => hF _ (h.inF s hs t ht), hG⟩
theorem kp_drewN {F : Nat → Prop} {w w' : World} (h : Kp F w w') (k : Nat) : Kp F w (w'.drewN k) := ⟨h.os, h.tape, h.output, h.size, h.block⟩
theorem Chn.drewN (h : Chn w F b hv ch) (k : Nat) : Chn (w.drewN k) F b hv ch := h.same (kp_drewN (Kp.refl _ w) k)
theorem Chn.head (h : Chn w F b hv ch) {i : Nat} {v : Value} (hi : hv[i]? = some v) : w.cell? ⟨b, i, none⟩ = some v := by
  obtain ⟨cs, h1, h2, h3⟩ := h.row
  rw [cell_of_row w b i _ _ _ h1]; exact h2 i v hi
theorem Chn.slot (h : Chn w F b hv ch) {s : Nat} (hs : s < 320) : w.cell? ⟨b, 4 + s, none⟩ = some (tptr (hdOr (ch s) none)) := by
  obtain ⟨cs, h1, h2, h3⟩ := h.row
  rw [cell_of_row w b _ _ _ _ h1]; exact h3 s hs
theorem Chn.fz (h : Chn w F b hv ch) (o : Nat) : w.frozen? ⟨b, o, none⟩ = false := by
  obtain ⟨cs, h1, h2, h3⟩ := h.row
  simp [World.frozen?, h1]
theorem nd_ne {t : Tm} {p q : Option Nat} (h : Chn w F b hv ch) (hn : Nd w t p q) : t.blk ≠ b := by
  obtain ⟨cs, h1, h2, h3⟩ := h.row
  intro e
  unfold Nd at hn
  rw [e, h1] at hn
  injection hn with hn
  injection hn with _ hn
  exact absurd hn (by decide)
theorem Chn.node (h : Chn w F b hv ch) {s : Nat} (hs : s < 320) {t : Tm} (ht : t ∈ ch s) : ∃ p q, Nd w t p q := Lnk.mem (h.lk s hs) ht
theorem Chn.one (h : Chn w F b hv ch) {s s' : Nat} (hs : s < 320) (hs' : s' < 320) {t t' : Tm} (ht : t ∈ ch s) (ht' : t' ∈ ch s') (e : t.blk = t'.blk) : s = s' ∧ t = t' := by
  obtain rfl := h.ap s s' hs hs' t ht t' ht' e
  refine ⟨rfl, ?_⟩
  have hn := h.nd s hs
  clear h
  generalize ch s = l at *
  induction l with
  | nil => simp at ht
  | cons a l ih =>
    simp only [List.map_cons, List.nodup_cons, List.mem_map, not_exists, not_and] at hn
    rcases List.mem_cons.1 ht with rfl | h1
    · rcases List.mem_cons.1 ht' with rfl | h2
      · rfl
      · exact absurd e.symm (hn.1 _ h2)
    · rcases List.mem_cons.1 ht' with rfl | h2
      · exact absurd e (hn.1 _ h1)
      · exact ih h1 h2 hn.2

/-- a header cell is written -/
theorem Chn.setHead (h : Chn w F b hv ch) (i : Nat) (u : Value) (hi : i < 4) : Chn (w.setCell ⟨b, i, none⟩ u) F b (hv.set i u) ch := by
  obtain ⟨cs, h1, h2, h3⟩ := h.row
  have hne : ∀ s, s < 320 → ∀ t ∈ ch s, t.blk ≠ b := fun s hs t ht => by obtain ⟨p, q, hn⟩ := h.node hs ht; exact nd_ne h hn
  refine ⟨⟨_, wh_heap_set h1 u, fun j v hj => ?_, fun s hs => ?_⟩, by simpa using h.four, fun s hs => (h.lk s hs).other (hne s hs), h.nd, h.ap, h.inb, h.inF, fun k hk => by simpa [World.setCell] using h.lt k hk⟩
  · have hl : j < hv.length := by have := (List.getElem?_eq_some_iff.1 hj).1; simpa using this
    have hc := h2 j hv[j] (List.getElem?_eq_getElem hl)
    by_cases e : i = j
    · subst e
      rw [List.getElem?_set_self (by simpa using hl)] at hj
      rw [Array.getElem?_setIfInBounds_self_of_lt (Array.getElem?_eq_some_iff.1 hc).1]
      exact hj
    · rw [List.getElem?_set_ne e] at hj
      rw [Array.getElem?_setIfInBounds_ne e]
      exact h2 j v hj
  · rw [Array.getElem?_setIfInBounds_ne (by omega)]
    exact h3 s hs

/-- a slot's chain is another one, whose nodes are linked, and whose head the slot names -/
theorem Chn.put (h : Chn w F b hv ch) {s : Nat} (hs : s < 320) {l : List Tm} (hz : w'.heap.size = w.heap.size)
    (hrow : ∃ cs : Array Value, w'.heap[b]? = some (.cells cs 85 (0, 0)) ∧ (∀ (i : Nat) (v : Value), hv[i]? = some v → cs[i]? = some v) ∧ cs[4 + s]? = some (tptr (hdOr l none)) ∧ ∀ s', s' < 320 → s' ≠ s → cs[4 + s']? = some (tptr (hdOr (ch s') none)))
    (hl : Lnk w' none l none) (hnd : (l.map Tm.blk).Nodup) (hlF : ∀ t ∈ l, F t.blk) (hap : ∀ s', s' < 320 → s' ≠ s → ∀ t ∈ l, ∀ t' ∈ ch s', t.blk ≠ t'.blk)
    (hoth : ∀ s', s' < 320 → s' ≠ s → ∀ t ∈ ch s', w'.heap[t.blk]? = w.heap[t.blk]?) : Chn w' F b hv (upd ch s l) := by
  obtain ⟨cs, h1, h2, h3, h4⟩ := hrow
  refine ⟨⟨cs, h1, h2, fun s' hs' => ?_⟩, h.four, fun s' hs' => ?_, fun s' hs' => ?_, fun a c ha hc t ht t' ht' e => ?_, h.inb, fun s' hs' t ht => ?_, fun k hf => by rw [hz]; exact h.lt k hf⟩
  · by_cases e : s' = s
    · subst e; rw [upd_same]; exact h3
    · rw [upd_other _ _ e]; exact h4 s' hs' e
  · by_cases e : s' = s
    · subst e; rw [upd_same]; exact hl
    · rw [upd_other _ _ e]; exact (h.lk s' hs').same (hoth s' hs' e)
  · by_cases e : s' = s
    · subst e; rw [upd_same]; exact hnd
    · rw [upd_other _ _ e]; exact h.nd s' hs'
  · by_cases ea : a = s
    · by_cases ec : c = s
      · rw [ea, ec]
      · subst ea
        rw [upd_same] at ht
        rw [upd_other _ _ ec] at ht'
        exact absurd e (hap c hc ec t ht t' ht')
    · rw [upd_other _ _ ea] at ht
      by_cases ec : c = s
      · subst ec
        rw [upd_same] at ht'
        exact absurd e.symm (hap a ha ea t' ht' t ht)
      · rw [upd_other _ _ ec] at ht'
        exact h.ap a c ha hc t ht t' ht' e
  · by_cases e : s' = s
    · subst e; rw [upd_same] at ht; exact hlF t ht
    · rw [upd_other _ _ e] at ht; exact h.inF s' hs' t ht
end
end Go.Proofs.Ytmekhijmghddiaa
