/- A wheel's slots: a timer is put ahead of a chain. -/
import Derived.Test.YtmekhijmghddiaaWhChain
namespace Go.Proofs.Ytmekhijmghddiaa
open Go.RowKit

section
variable {F G : Nat → Prop} {w w' : World} {b : Nat} {hv : List Value} {ch : Nat → List Tm}
theorem add_pure (h : Chn w F b hv ch) {s : Nat} (hs : s < 320) {t : Tm} {p q : Option Nat} (hn : Nd w t p q) (hF : F t.blk) (hap : ∀ s', s' < 320 → ∀ t' ∈ ch s', t'.blk ≠ t.blk)
    (he : w' = (match ch s with
      | [] => ((w.setCell ⟨t.blk, 3, none⟩ (tptr none)).setCell ⟨t.blk, 4, none⟩ (tptr none)).setCell ⟨b, 4 + s, none⟩ (tptr (some t.blk))
      | a :: _ => (((w.setCell ⟨t.blk, 3, none⟩ (tptr none)).setCell ⟨t.blk, 4, none⟩ (tptr (some a.blk))).setCell ⟨a.blk, 3, none⟩ (tptr (some t.blk))).setCell ⟨b, 4 + s, none⟩ (tptr (some t.blk)))) :
    Chn w' F b hv (upd ch s (t :: ch s)) ∧ Kp F w w' ∧ w'.heap.size = w.heap.size := by
  have htb := nd_ne h hn
  obtain ⟨cs, h1, h2, h3⟩ := h.row
  have hb4 : ∀ s', s' < 320 → ∀ t' ∈ ch s', t'.blk ≠ b := fun s' hs' t' ht' => by obtain ⟨p', q', hn'⟩ := h.node hs' ht'; exact nd_ne h hn'
  have hsz := (Array.getElem?_eq_some_iff.1 (h3 s hs)).1
  have hcs : ∀ w1 : World, w1.heap[b]? = w.heap[b]? → ∃ cs : Array Value, (w1.setCell ⟨b, 4 + s, none⟩ (tptr (some t.blk))).heap[b]? = some (.cells cs 85 (0, 0)) ∧ (∀ (i : Nat) (v : Value), hv[i]? = some v → cs[i]? = some v) ∧
      cs[4 + s]? = some (tptr (some t.blk)) ∧ ∀ s', s' < 320 → s' ≠ s → cs[4 + s']? = some (tptr (hdOr (ch s') none)) := by
    intro w1 hw1
    refine ⟨_, wh_heap_set (hw1.trans h1) _, fun i v hi => ?_, Array.getElem?_setIfInBounds_self_of_lt hsz, fun s' hs' hne => ?_⟩
    · have := (List.getElem?_eq_some_iff.1 hi).1
      have h4 := h.four
      rw [Array.getElem?_setIfInBounds_ne (by omega)]
      exact h2 i v hi
    · rw [Array.getElem?_setIfInBounds_ne (by omega)]
      exact h3 s' hs'
  cases hl : ch s with
  | nil =>
    rw [hl] at he
    simp only at he
    subst he
    refine ⟨?_, ?_, by simp [World.setCell]⟩
    · refine h.put hs (by simp [World.setCell]) (hcs _ (by rw [heap_other (Ne.symm htb), heap_other (Ne.symm htb)])) ?_ (by simp) (fun x hx => by simp at hx; subst hx; exact hF) (fun s' hs' _ x hx x' hx' => by simp at hx; subst hx; exact (hap s' hs' x' hx').symm) ?_
      · exact ⟨((hn.ahead none).behind none).other htb, trivial⟩
      · intro s' hs' _ x hx
        rw [heap_other (hb4 s' hs' x hx), heap_other (hap s' hs' x hx), heap_other (hap s' hs' x hx)]
    · exact (((Kp.refl F w).setCell _ _ (.inl hF)).setCell _ _ (.inl hF)).setCell _ _ (.inl h.inb)
  | cons a l =>
    rw [hl] at he
    simp only at he
    subst he
    have ha : a ∈ ch s := by rw [hl]; simp
    have hab := hb4 s hs a ha
    have hat := hap s hs a ha
    have hlk := h.lk s hs
    rw [hl] at hlk
    have hnd := h.nd s hs
    rw [hl] at hnd
    have hal : ∀ x ∈ l, x.blk ≠ a.blk := fun x hx e => by
      simp only [List.map_cons, List.nodup_cons, List.mem_map, not_exists, not_and] at hnd
      exact hnd.1 x hx e
    have hlin : ∀ x ∈ l, x ∈ ch s := fun x hx => by rw [hl]; simp [hx]
    refine ⟨?_, ?_, by simp [World.setCell]⟩
    · refine h.put hs (by simp [World.setCell]) (hcs _ (by rw [heap_other (Ne.symm hab), heap_other (Ne.symm htb), heap_other (Ne.symm htb)])) ?_ ?_ ?_ ?_ ?_
      · refine ⟨(((hn.ahead none).behind (some a.blk)).other (Ne.symm hat)).other htb, ?_, ?_⟩
        · exact (((hlk.1.other hat).other hat).ahead (some t.blk)).other hab
        · exact (((hlk.2.other fun x hx => hap s hs x (hlin x hx)).other fun x hx => hap s hs x (hlin x hx)).other hal).other fun x hx => hb4 s hs x (hlin x hx)
      · rw [List.map_cons, List.nodup_cons]
        refine ⟨?_, hnd⟩
        rw [← hl]
        simp only [List.mem_map, not_exists, not_and]
        exact fun x hx e => hap s hs x hx e
      · intro x hx
        rcases List.mem_cons.1 hx with rfl | hx
        · exact hF
        · exact h.inF s hs x (by rw [hl]; exact hx)
      · intro s' hs' hne x hx x' hx'
        rcases List.mem_cons.1 hx with rfl | hx
        · exact (hap s' hs' x' hx').symm
        · exact fun e => hne (h.ap s s' hs hs' x (by rw [hl]; exact hx) x' hx' e).symm
      · intro s' hs' hne x hx
        rw [heap_other (hb4 s' hs' x hx), heap_other (fun e => hne (h.ap s' s hs' hs x hx a ha e)), heap_other (hap s' hs' x hx), heap_other (hap s' hs' x hx)]
    · exact ((((Kp.refl F w).setCell _ _ (.inl hF)).setCell _ _ (.inl hF)).setCell _ _ (.inl (h.inF s hs a ha))).setCell _ _ (.inl h.inb)

set_option maxHeartbeats 1000000 in
theorem add_any (h : Chn w F b hv ch) {s : Nat} (hs : s < 320) {t : Tm} {p q : Option Nat} (hn : Nd w t p q) (hF : F t.blk) (hap : ∀ s', s' < 320 → ∀ t' ∈ ch s', t'.blk ≠ t.blk) :
    Calls Try.prog 34 #[.pointer (some ⟨b, 4 + s, none⟩), .pointer (some ⟨t.blk, 0, none⟩)] w fun e w' => e = .returned (.tuple #[]) ∧ Chn w' F b hv (upd ch s (t :: ch s)) ∧ Kp F w w' ∧ w'.heap.size = w.heap.size := by
  have HP := Lib.hid (fun w' => add_pure (w' := w') h hs hn hF hap)
  have hc := h.slot hs
  have fb := h.fz
  obtain ⟨t0, t1, t2, t3, t4, ft, -⟩ := hn.facts
  have htb := nd_ne h hn
  have hbt := Ne.symm htb
  obtain ⟨o, ho⟩ : ∃ o, 4 + s = o := ⟨_, rfl⟩
  obtain ⟨g, hg⟩ : ∃ g, t.blk = g := ⟨_, rfl⟩
  cases hl : ch s with
  | nil =>
    rw [hl] at hc HP
    rw [ho] at hc HP ⊢
    rw [hg] at HP t0 t1 t2 t3 t4 ft htb hbt ⊢
    rw [show tptr (hdOr [] none) = .pointer none from rfl] at hc
    clear h hn hap hl ho hg
    go_enter Try.func34, Try.ntmps34
    go_wp2_with fail
    go_end0
    exact ⟨rfl, HP.out _ rfl⟩
  | cons a l =>
    have ha : a ∈ ch s := by rw [hl]; simp
    obtain ⟨pa, qa, hna⟩ := h.node hs ha
    obtain ⟨-, -, -, a3, a4, fa, -⟩ := hna.facts
    have hab := nd_ne h hna
    have hat := hap s hs a ha
    have hba := Ne.symm hab
    have hta := Ne.symm hat
    obtain ⟨k, hk⟩ : ∃ k, a.blk = k := ⟨_, rfl⟩
    rw [hl] at hc HP
    rw [ho] at hc HP ⊢
    rw [hg] at HP t0 t1 t2 t3 t4 ft htb hbt hat hta ⊢
    rw [show tptr (hdOr (a :: l) none) = .pointer (some ⟨a.blk, 0, none⟩) from rfl] at hc
    simp only [hk] at HP hc a3 a4 fa hab hat hba hta
    clear h hn hap hl ho hg hk ha hna
    go_enter Try.func34, Try.ntmps34
    go_wp2_with fail
    go_end0
    exact ⟨rfl, HP.out _ rfl⟩
end
end Go.Proofs.Ytmekhijmghddiaa
