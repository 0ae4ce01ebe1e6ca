/- A wheel's slots: a timer is taken out of a chain. -/
import Derived.Test.YtmekhijmghddiaaWhAdd
namespace Go.Proofs.Ytmekhijmghddiaa
open Go.RowKit

section
variable {F G : Nat → Prop} {w w1 w' : World} {b : Nat} {hv : List Value} {ch : Nat → List Tm}
theorem drop_pure (h : Chn w F b hv ch) {s : Nat} (hs : s < 320) {l1 l2 : List Tm} {t : Tm} (hl : ch s = l1 ++ t :: l2)
    (e1 : (l1 = [] ∧ w1 = w.setCell ⟨b, 4 + s, none⟩ (tptr (hdOr l2 none))) ∨ ∃ l a, l1 = l ++ [a] ∧ w1 = w.setCell ⟨a.blk, 4, none⟩ (tptr (hdOr l2 none)))
    (e2 : (l2 = [] ∧ w' = w1) ∨ ∃ c l, l2 = c :: l ∧ w' = w1.setCell ⟨c.blk, 3, none⟩ (tptr (lsOr none l1))) :
    Chn w' F b hv (upd ch s (l1 ++ l2)) ∧ Kp F w w' ∧ w'.heap.size = w.heap.size ∧ ∃ p q, Nd w' t p q := by
  have hb4 : ∀ s', s' < 320 → ∀ t' ∈ ch s', t'.blk ≠ b := fun s' hs' t' ht' => by obtain ⟨p', q', hn'⟩ := h.node hs' ht'; exact nd_ne h hn'
  have hin1 : ∀ x ∈ l1, x ∈ ch s := fun x hx => by rw [hl]; simp [hx]
  have hin2 : ∀ x ∈ l2, x ∈ ch s := fun x hx => by rw [hl]; simp [hx]
  have hint : t ∈ ch s := by rw [hl]; simp
  have hlk := h.lk s hs
  rw [hl, Lnk.append] at hlk
  obtain ⟨k1, kt, k2⟩ := hlk
  have hnd := h.nd s hs
  rw [hl] at hnd
  simp only [List.map_append, List.map_cons] at hnd
  obtain ⟨n1, n2, n3⟩ := List.nodup_append.1 hnd
  simp only [List.nodup_cons] at n2
  have n12 : ∀ x ∈ l1, ∀ y ∈ l2, x.blk ≠ y.blk := fun x hx y hy e => n3 _ (List.mem_map_of_mem hx) _ (List.mem_cons_of_mem _ (List.mem_map_of_mem hy)) e
  have n1t : ∀ x ∈ l1, x.blk ≠ t.blk := fun x hx e => n3 _ (List.mem_map_of_mem hx) _ (by simp) e
  have n2t : ∀ x ∈ l2, x.blk ≠ t.blk := fun x hx e => n2.1 (by rw [← e]; exact List.mem_map_of_mem hx)
  have hoth : ∀ s', s' < 320 → s' ≠ s → ∀ x ∈ ch s', ∀ y ∈ ch s, x.blk ≠ y.blk := fun s' hs' hne x hx y hy e => hne (h.ap s' s hs' hs x hx y hy e)
  obtain ⟨cs, r1, r2, r3⟩ := h.row
  have hsz := (Array.getElem?_eq_some_iff.1 (r3 s hs)).1
  -- the first store
  have S1 : Kp F w w1 ∧ w1.heap.size = w.heap.size ∧ Lnk w1 none l1 (hdOr l2 none) ∧ Lnk w1 (some t.blk) l2 none ∧ Nd w1 t (lsOr none l1) (hdOr l2 none) ∧ (∀ s', s' < 320 → s' ≠ s → ∀ x ∈ ch s', w1.heap[x.blk]? = w.heap[x.blk]?) ∧
      ∃ cs : Array Value, w1.heap[b]? = some (.cells cs 85 (0, 0)) ∧ (∀ (i : Nat) (v : Value), hv[i]? = some v → cs[i]? = some v) ∧ cs[4 + s]? = some (tptr (hdOr (l1 ++ l2) none)) ∧ ∀ s', s' < 320 → s' ≠ s → cs[4 + s']? = some (tptr (hdOr (ch s') none)) := by
    rcases e1 with ⟨rfl, rfl⟩ | ⟨l, a, rfl, rfl⟩
    · refine ⟨(Kp.refl F w).setCell _ _ (.inl h.inb), by simp [World.setCell], trivial, k2.other fun x hx => hb4 s hs x (hin2 x hx), kt.other (hb4 s hs t hint), fun s' hs' _ x hx => heap_other (hb4 s' hs' x hx), _, wh_heap_set r1 _, fun i v hi => ?_, Array.getElem?_setIfInBounds_self_of_lt hsz, fun s' hs' hne => ?_⟩
      · have := (List.getElem?_eq_some_iff.1 hi).1
        have h4 := h.four
        rw [Array.getElem?_setIfInBounds_ne (by omega)]
        exact r2 i v hi
      · rw [Array.getElem?_setIfInBounds_ne (by omega)]
        exact r3 s' hs'
    · have ha := hin1 a (by simp)
      have hba := Ne.symm (hb4 s hs a ha)
      have hla : ∀ x ∈ l, x.blk ≠ a.blk := fun x hx e => by
        simp only [List.map_append, List.map_cons, List.map_nil] at n1
        obtain ⟨_, _, m3⟩ := List.nodup_append.1 n1
        exact m3 _ (List.mem_map_of_mem hx) _ (by simp) e
      rw [Lnk.append] at k1
      refine ⟨(Kp.refl F w).setCell _ _ (.inl (h.inF s hs a ha)), by simp [World.setCell], ?_, k2.other fun x hx e => n12 a (by simp) x hx e.symm, kt.other (Ne.symm (n1t a (by simp))), fun s' hs' hne x hx => heap_other (hoth s' hs' hne x hx a ha), cs, (heap_other hba).trans r1, r2, ?_, fun s' hs' _ => r3 s' hs'⟩
      · rw [Lnk.append]
        exact ⟨k1.1.other hla, k1.2.1.behind _, trivial⟩
      · rw [r3 s hs, hl, hdOr_append, hdOr_append, hdOr_append, hdOr_append]
        rfl
  obtain ⟨sk, sz, sl1, sl2, snd, sot, srow⟩ := S1
  rcases e2 with ⟨rfl, rfl⟩ | ⟨c, l, rfl, rfl⟩
  · refine ⟨h.put hs sz srow ?_ ?_ ?_ ?_ sot, sk, sz, _, _, snd⟩
    · rw [List.append_nil]; exact sl1
    · rw [List.append_nil]; exact n1
    · rw [List.append_nil]; exact fun x hx => h.inF s hs x (hin1 x hx)
    · rw [List.append_nil]; exact fun s' hs' hne x hx x' hx' => (hoth s' hs' hne x' hx' x (hin1 x hx)).symm
  · have hc := hin2 c (by simp)
    obtain ⟨cs2, q1, q2, q3, q4⟩ := srow
    have hlc : ∀ x ∈ l, x.blk ≠ c.blk := fun x hx e => by
      have := n2.2
      simp only [List.map_cons, List.nodup_cons, List.mem_map, not_exists, not_and] at this
      exact this.1 x hx e
    refine ⟨h.put hs (by simpa [World.setCell] using sz) ⟨cs2, (heap_other (Ne.symm (hb4 s hs c hc))).trans q1, q2, q3, q4⟩ ?_ ?_ ?_ ?_ ?_, sk.setCell _ _ (.inl (h.inF s hs c hc)), by simpa [World.setCell] using sz, _, _, snd.other (Ne.symm (n2t c (by simp)))⟩
    · rw [Lnk.append]
      exact ⟨sl1.other fun x hx => n12 x hx c (by simp), sl2.1.ahead _, sl2.2.other hlc⟩
    · rw [List.map_append]
      exact List.nodup_append.2 ⟨n1, n2.2, fun x hx y hy => n3 x hx y (List.mem_cons_of_mem _ hy)⟩
    · exact fun x hx => (List.mem_append.1 hx).elim (fun hx => h.inF s hs x (hin1 x hx)) (fun hx => h.inF s hs x (hin2 x hx))
    · exact fun s' hs' hne x hx x' hx' => (List.mem_append.1 hx).elim (fun hx => (hoth s' hs' hne x' hx' x (hin1 x hx)).symm) (fun hx => (hoth s' hs' hne x' hx' x (hin2 x hx)).symm)
    · exact fun s' hs' hne x hx => (heap_other (hoth s' hs' hne x hx c hc)).trans (sot s' hs' hne x hx)

def DropTo (F : Nat → Prop) (b : Nat) (hv : List Value) (ch : Nat → List Tm) (t : Tm) (w w' : World) : Prop :=
  Chn w' F b hv ch ∧ Kp F w w' ∧ w'.heap.size = w.heap.size ∧ ∃ p q, Nd w' t p q

theorem DropTo.drewN {t : Tm} (h : DropTo F b hv ch t w w') (k : Nat) : DropTo F b hv ch t w (w'.drewN k) := by
  obtain ⟨h1, h2, h3, p, q, h4⟩ := h
  exact ⟨h1.drewN k, kp_drewN h2 k, h3, p, q, h4⟩

set_option maxRecDepth 100000 in
set_option maxHeartbeats 1000000 in
theorem drop_any (h : Chn w F b hv ch) {s : Nat} (hs : s < 320) {l1 l2 : List Tm} {t : Tm} (hl : ch s = l1 ++ t :: l2) :
    Calls Try.prog 36 #[.pointer (some ⟨b, 4 + s, none⟩), .pointer (some ⟨t.blk, 0, none⟩)] w fun e w' => e = .returned (.tuple #[]) ∧ DropTo F b hv (upd ch s (l1 ++ l2)) t w w' := by
  have HP := Lib.hid (fun w1 w' => drop_pure (w1 := w1) (w' := w') h hs hl)
  have hc := h.slot hs
  have fb := h.fz
  have hint : t ∈ ch s := by rw [hl]; simp
  have hlk := h.lk s hs
  rw [hl, Lnk.append] at hlk
  obtain ⟨k1, kt, k2⟩ := hlk
  have hnd := h.nd s hs
  rw [hl] at hnd
  simp only [List.map_append, List.map_cons] at hnd
  obtain ⟨n1, n2, n3⟩ := List.nodup_append.1 hnd
  simp only [List.nodup_cons] at n2
  have n12 : ∀ x ∈ l1, ∀ y ∈ l2, x.blk ≠ y.blk := fun x hx y hy e => n3 _ (List.mem_map_of_mem hx) _ (List.mem_cons_of_mem _ (List.mem_map_of_mem hy)) e
  have n1t : ∀ x ∈ l1, x.blk ≠ t.blk := fun x hx e => n3 _ (List.mem_map_of_mem hx) _ (by simp) e
  have n2t : ∀ x ∈ l2, x.blk ≠ t.blk := fun x hx e => n2.1 (by rw [← e]; exact List.mem_map_of_mem hx)
  have htb := nd_ne h kt
  have hb4 : ∀ t' ∈ ch s, t'.blk ≠ b := fun t' ht' => by obtain ⟨p', q', hn'⟩ := h.node hs ht'; exact nd_ne h hn'
  obtain ⟨-, -, -, t3, t4, ft, -⟩ := kt.facts
  have hbt := Ne.symm htb
  obtain ⟨o, ho⟩ : ∃ o, 4 + s = o := ⟨_, rfl⟩
  obtain ⟨g, hg⟩ : ∃ g, t.blk = g := ⟨_, rfl⟩
  rcases List.eq_nil_or_concat l1 with rfl | ⟨l, a, rfl⟩
  · rw [show tptr (lsOr none []) = .pointer none from rfl] at t3
    cases l2 with
    | nil =>
      rw [show tptr (hdOr [] none) = .pointer none from rfl] at t4
      have HQ := Lib.hid (HP.out _ _ (.inl ⟨rfl, rfl⟩) (.inl ⟨rfl, rfl⟩))
      rw [ho] at hc HQ ⊢
      rw [hg] at t3 t4 ft htb hbt ⊢
      clear HP h hl ho hg hint hnd n1 n2 n3 n12 n1t n2t hb4 k1 kt k2
      go_enter Try.func36, Try.ntmps36
      go_wp2_with fail
      go_end0
      exact ⟨rfl, HQ.out⟩
    | cons c l =>
      rw [show tptr (hdOr (c :: l) none) = .pointer (some ⟨c.blk, 0, none⟩) from rfl] at t4
      obtain ⟨-, -, -, c3, c4, fc, -⟩ := k2.1.facts
      have hct := n2t c (by simp)
      have htc := Ne.symm hct
      have hcb := hb4 c (by rw [hl]; simp)
      have hbc := Ne.symm hcb
      have HQ := Lib.hid (HP.out _ _ (.inl ⟨rfl, rfl⟩) (.inr ⟨c, l, rfl, rfl⟩))
      obtain ⟨k, hk⟩ : ∃ k, c.blk = k := ⟨_, rfl⟩
      rw [show tptr (hdOr (c :: l) none) = .pointer (some ⟨c.blk, 0, none⟩) from rfl] at HQ
      rw [ho] at hc HQ ⊢
      rw [hg] at t3 t4 ft htb hbt hct htc ⊢
      rw [hk] at HQ t4 c3 c4 fc hct htc hcb hbc
      clear HP h hl ho hg hk hint hnd n1 n2 n3 n12 n1t n2t hb4 k1 kt k2
      go_enter Try.func36, Try.ntmps36
      go_wp2_with fail
      go_region
      go_wp2_with fail
      go_end0
      exact ⟨rfl, DropTo.drewN HQ.out 1⟩
  · rw [show l.concat a = l ++ [a] from List.concat_eq_append] at *
    rw [lsOr_snoc, show tptr (some a.blk) = .pointer (some ⟨a.blk, 0, none⟩) from rfl] at t3
    rw [Lnk.append] at k1
    obtain ⟨-, -, -, a3, a4, fa, -⟩ := k1.2.1.facts
    have hat := n1t a (by simp)
    have hta := Ne.symm hat
    have hab := hb4 a (by rw [hl]; simp)
    have hba := Ne.symm hab
    obtain ⟨m, hm⟩ : ∃ m, a.blk = m := ⟨_, rfl⟩
    cases l2 with
    | nil =>
      rw [show tptr (hdOr [] none) = .pointer none from rfl] at t4
      have HQ := Lib.hid (HP.out _ _ (.inr ⟨l, a, rfl, rfl⟩) (.inl ⟨rfl, rfl⟩))
      rw [show tptr (hdOr [] none) = .pointer none from rfl] at HQ
      rw [ho] at hc ⊢
      rw [hg] at t3 t4 ft htb hbt hat hta ⊢
      rw [hm] at HQ t3 a3 a4 fa hat hta hab hba
      clear HP h hl ho hg hm hint hnd n1 n2 n3 n12 n1t n2t hb4 k1 kt k2
      go_enter Try.func36, Try.ntmps36
      go_wp2_with fail
      go_region
      go_wp2_with fail
      go_end0
      exact ⟨rfl, DropTo.drewN HQ.out 1⟩
    | cons c l' =>
      rw [show tptr (hdOr (c :: l') none) = .pointer (some ⟨c.blk, 0, none⟩) from rfl] at t4
      obtain ⟨-, -, -, c3, c4, fc, -⟩ := k2.1.facts
      have hct := n2t c (by simp)
      have htc := Ne.symm hct
      have hcb := hb4 c (by rw [hl]; simp)
      have hbc := Ne.symm hcb
      have hca := n12 a (by simp) c (by simp)
      have hac := Ne.symm hca
      have HQ := Lib.hid (HP.out _ _ (.inr ⟨l, a, rfl, rfl⟩) (.inr ⟨c, l', rfl, rfl⟩))
      obtain ⟨k, hk⟩ : ∃ k, c.blk = k := ⟨_, rfl⟩
      rw [show tptr (hdOr (c :: l') none) = .pointer (some ⟨c.blk, 0, none⟩) from rfl, lsOr_snoc, show tptr (some a.blk) = .pointer (some ⟨a.blk, 0, none⟩) from rfl] at HQ
      rw [ho] at hc ⊢
      rw [hg] at t3 t4 ft htb hbt hct htc hat hta ⊢
      rw [hm] at HQ t3 a3 a4 fa hat hta hab hba hca hac
      rw [hk] at HQ t4 c3 c4 fc hct htc hcb hbc hca hac
      clear HP h hl ho hg hk hm hint hnd n1 n2 n3 n12 n1t n2t hb4 k1 kt k2
      go_enter Try.func36, Try.ntmps36
      go_wp2_with fail
      go_region
      go_wp2_with fail
      go_region
      go_wp2_with fail
      go_end0
      exact ⟨rfl, DropTo.drewN HQ.out 2⟩
set_option maxHeartbeats 1000000 in
theorem take_none (h : Chn w F b hv ch) {s : Nat} (hs : s < 320) (hl : ch s = []) :
    Calls Try.prog 43 #[.pointer (some ⟨b, 4 + s, none⟩)] w fun e w' => e = .returned (.pointer none) ∧ w = w' := by
  have hc := h.slot hs
  rw [hl, show tptr (hdOr [] none) = .pointer none from rfl] at hc
  obtain ⟨o, ho⟩ : ∃ o, 4 + s = o := ⟨_, rfl⟩
  rw [ho] at hc ⊢
  clear h hl ho
  go_enter Try.func43, Try.ntmps43
  go_wp2_with fail
  go_ret
  exact ⟨rfl, rfl⟩
set_option maxHeartbeats 1000000 in
theorem take_some (h : Chn w F b hv ch) {s : Nat} (hs : s < 320) {t : Tm} {l : List Tm} (hl : ch s = t :: l) :
    Calls Try.prog 43 #[.pointer (some ⟨b, 4 + s, none⟩)] w fun e w' => e = .returned (.pointer (some ⟨t.blk, 0, none⟩)) ∧ DropTo F b hv (upd ch s l) t w w' := by
  have hc := h.slot hs
  rw [hl, show tptr (hdOr (t :: l) none) = .pointer (some ⟨t.blk, 0, none⟩) from rfl] at hc
  have HD := Lib.hid (drop_any h hs (l1 := []) (l2 := l) (t := t) hl)
  rw [List.nil_append] at HD
  obtain ⟨o, ho⟩ : ∃ o, 4 + s = o := ⟨_, rfl⟩
  obtain ⟨g, hg⟩ : ∃ g, t.blk = g := ⟨_, rfl⟩
  rw [hg] at hc HD ⊢
  rw [ho] at hc HD ⊢
  clear h hl ho hg
  go_enter Try.func43, Try.ntmps43
  go_wp2_with fail
  refine HD.out.mono ?_
  rintro e w1 ⟨rfl, h1⟩
  have H1 := Lib.hid h1
  clear h1
  go_wp2_with fail
  go_ret
  exact ⟨rfl, H1.out⟩
end
end Go.Proofs.Ytmekhijmghddiaa
