/- A table's New, Live, Slot, Add. -/
import Derived.Test.YtdcmdidikengbaaTbFree
namespace Go.Proofs.Ytdcmdidikengbaa
open Go.RowKit
set_option linter.unusedVariables false

section
variable {F : Nat → Prop} {w w' : World} {b mb size B : Nat} {v : Value} {sl : List Sg} {ns : List Nm} {p : Int}
set_option maxHeartbeats 1000000 in
theorem tnew_bad (w : World) (m : Int) (h : m < 1 ∨ 64 < m) :
    Calls Try.prog 9 #[.int .i64 m] w (EBad w (fun v => .tuple #[.pointer none, v]) [Lk.fault ⟨#[116, 97, 98, 108, 101]⟩ m, Lk.kind 1]) := by
  have HB := Lib.hid (ebad1 w (fun v => .tuple #[.pointer none, v]) ⟨#[116, 97, 98, 108, 101]⟩ m 1 (by decide) 0)
  rcases h with h | h
  · go_enter Try.func9, Try.ntmps9
    go_wp2_with (go_at_call 36; refine (at_any _ _ _ _ _).mono ?_; rintro e w' ⟨rfl, rfl⟩)
    go_ret2
    exact HB.out
  · have h2 : ¬ m < 1 := by omega
    go_enter Try.func9, Try.ntmps9
    go_wp2_with (go_at_call 36; refine (at_any _ _ _ _ _).mono ?_; rintro e w' ⟨rfl, rfl⟩)
    go_ret2
    exact HB.out
def TNewTo (m : Nat) (w : World) (e : Ending) (w' : World) : Prop :=
  e = .returned (.tuple #[.pointer (some ⟨w.heap.size + 1, 0, none⟩), .nilIface]) ∧ Tb w' (w.heap.size + 1) w.heap.size (.slice none 0 0) m 0 [] [] ∧ Kp (fun _ => False) w w' ∧ w'.heap.size = w.heap.size + 2
theorem tnew_tb (w : World) (m : Nat) (h1 : 1 ≤ m) (h2 : m ≤ 64) : Tb ((w.alloc (.map #[] 0)).alloc (.cells #[.int .i64 (m : Nat), .slice none 0 0, .map (some w.heap.size)] 79)) (w.heap.size + 1) w.heap.size (.slice none 0 0) m 0 [] [] := by
  have hz : (w.alloc (.map #[] 0)).heap.size = w.heap.size + 1 := by simp
  have hrow := heap_alloc_new (w.alloc (.map #[] 0)) (.cells #[.int .i64 (m : Nat), .slice none 0 0, .map (some w.heap.size)] 79)
  rw [hz] at hrow
  exact ⟨hrow, ownsS_nil _ _ _, (Mn.new w).same ((Kp.refl _ _).alloc _), ⟨fun k s hs => by simp at hs, fun s hs => by simp at hs⟩, by simp, h1, h2, by simp, fun n hn => by simp at hn, fun n hn => by simp at hn⟩
set_option maxRecDepth 100000 in
set_option maxHeartbeats 2000000 in
theorem tnew_ok (w : World) (m : Nat) (h1 : 1 ≤ m) (h2 : m ≤ 64) :
    Calls Try.prog 9 #[.int .i64 (m : Nat)] w (TNewTo m w) := by
  have hmm := @run_makeMap Try.prog
  have HB := Lib.hid (tnew_tb w m h1 h2)
  have n1 : ¬ (m : Int) < 1 := by omega
  have n2 : ¬ 64 < (m : Int) := by omega
  go_enter Try.func9, Try.ntmps9
  go_wp2_with fail
  go_ret2
  exact ⟨rfl, HB.out, ((Kp.refl _ w).alloc _).alloc _, by simp⟩

theorem errV_0 : errV 0 = .nilIface := rfl
theorem errV_3 : errV 3 = .iface 39 (.int .i64 3) := rfl
theorem errV_4 : errV 4 = .iface 39 (.int .i64 4) := rfl
set_option maxHeartbeats 1000000 in
theorem tlive_any (h : Tb w b mb v size B sl ns) (p : Int) : Calls Try.prog 12 #[.pointer (some ⟨b, 0, none⟩), .int .i64 p] w fun e w' => e = .returned (.bool (decide (kindAt sl p = 0))) ∧ w = w' := by
  have HW := wrong_any h p
  clear h
  rcases kindAt_cases sl p with hk | hk | hk <;> rw [hk] at HW ⊢ <;> simp only [errV_0, errV_3, errV_4] at HW
  all_goals
    go_enter Try.func12, Try.ntmps12
    go_wp2_with (go_at_call 38; refine HW.mono ?_; rintro e w' ⟨rfl, rfl⟩)
    go_ret
    exact ⟨rfl, rfl⟩
set_option maxHeartbeats 1000000 in
theorem tslot_ok (h : Tb w b mb v size B sl ns) (p : Int) (hk : kindAt sl p = 0) : Calls Try.prog 15 #[.pointer (some ⟨b, 0, none⟩), .int .i64 p] w fun e w' => e = .returned (.tuple #[.int .i64 (slotAt p), .nilIface]) ∧ w = w' := by
  have HW := wrong_any h p
  have HS := slotOf_any p w
  rw [hk, errV_0] at HW
  clear h hk
  go_enter Try.func15, Try.ntmps15
  go_wp2_with (first | (go_at_call 38; refine HW.mono ?_; rintro e w' ⟨rfl, rfl⟩) | (go_at_call 39; refine HS.mono ?_; rintro e w' ⟨rfl, rfl⟩))
  go_ret2
  exact ⟨rfl, rfl⟩
set_option maxHeartbeats 1000000 in
theorem tslot_bad (h : Tb w b mb v size B sl ns) (p : Int) (hk : kindAt sl p ≠ 0) : Calls Try.prog 15 #[.pointer (some ⟨b, 0, none⟩), .int .i64 p] w
    (EBad w (fun v => .tuple #[.int .i64 (-1), v]) [Lk.fault ⟨#[115, 108, 111, 116]⟩ (slotAt p), Lk.kind (kindAt sl p)]) := by
  have HW := wrong_any h p
  have HS := slotOf_any p w
  have HB := Lib.hid (ebad1 w (fun v => .tuple #[.int .i64 (-1), v]) ⟨#[115, 108, 111, 116]⟩ (slotAt p) (kindAt sl p) hk 0)
  clear h
  rcases kindAt_cases sl p with hk2 | hk2 | hk2
  · exact absurd hk2 hk
  all_goals
    rw [hk2] at HW HB ⊢
    simp only [errV_3, errV_4] at HW
    clear hk hk2
    obtain ⟨k, hk⟩ : ∃ k, slotAt p = k := ⟨_, rfl⟩
    rw [hk] at HS HB ⊢
    clear hk
    go_enter Try.func15, Try.ntmps15
    go_wp2_with (first | (go_at_call 38; refine HW.mono ?_; rintro e w' ⟨rfl, rfl⟩) | (go_at_call 39; refine HS.mono ?_; rintro e w' ⟨rfl, rfl⟩) | (go_at_call 36; refine (at_any _ _ _ _ _).mono ?_; rintro e w' ⟨rfl, rfl⟩))
    go_ret2
    exact HB.out

/-! Add -/
theorem heap_setT {w : World} {b i : Nat} {cs : Array Value} {T : TypeId} {fr : Nat × Nat} (hb : w.heap[b]? = some (.cells cs T fr)) (v : Value) :
    (w.setCell ⟨b, i, none⟩ v).heap[b]? = some (.cells (cs.setIfInBounds i v) T fr) := by
  simp [World.setCell, Array.getElem?_modify, hb]
theorem ownsS_set {e : TypeId} {s n g cap : Nat} {xs : List Value} (h : w.ownsS e s (.slice (some ⟨g, 0, none⟩) n cap) n xs) (j : Nat) (x : Value) (hj : j < n * s) :
    (w.setCell ⟨g, j, none⟩ x).ownsS e s (.slice (some ⟨g, 0, none⟩) n cap) n (xs.set j x) := by
  refine ⟨by rw [List.length_set, h.1], ?_⟩
  rcases h.2 with ⟨e0, _⟩ | ⟨g', cap', cur, e0, hg, h2, h3, h4, h5⟩
  · cases e0
  · injection e0 with e1 _ e2
    injection e1 with e1
    injection e1 with e1
    subst e1 e2
    refine .inr ⟨g, cap, _, rfl, heap_setT hg x, h2, by simpa using h3, h4, ?_⟩
    rw [Array.toList_setIfInBounds, List.take_set, h5]
theorem ownsS_fz {e : TypeId} {s n g cap : Nat} {xs : List Value} (h : w.ownsS e s (.slice (some ⟨g, 0, none⟩) n cap) n xs) (j : Nat) : w.frozen? ⟨g, j, none⟩ = false := by
  rcases h.2 with ⟨e0, _⟩ | ⟨g', cap', cur, e0, hg, -⟩
  · cases e0
  · injection e0 with e1
    injection e1 with e1
    injection e1 with e1
    subst e1
    simp [World.frozen?, hg]
theorem sgCells_set (i : Nat) (s x : Sg) (hs : sl[i]? = some s) : ((sgCells sl).set (i * 2) (.int .i64 (x.pid : Nat))).set (i * 2 + 1) (.bool x.on) = sgCells (sl.set i x) := by
  induction sl generalizing i with
  | nil => simp at hs
  | cons a l ih =>
    cases i with
    | zero => rfl
    | succ i =>
      have h1 := ih i (by simpa using hs)
      show ((.int .i64 (a.pid : Nat) :: .bool a.on :: sgCells l : List Value).set ((i + 1) * 2) _).set ((i + 1) * 2 + 1) _ = .int .i64 (a.pid : Nat) :: .bool a.on :: sgCells (l.set i x)
      rw [← h1, show (i + 1) * 2 = i * 2 + 1 + 1 by omega]
      rfl
/-- the cells of the slots behind Add's last two stores -/
theorem add_cells (hfit : freeAt sl < sl.length) {s : Sg} (hs : sl[freeAt sl]? = some s) : ((sgCells sl).set (freeAt sl * 2) (.int .i64 (addPid sl : Nat))).set (freeAt sl * 2 + 1) (.bool true) = sgCells (addTo sl) := by
  unfold addPid addTo
  rw [hs]
  exact sgCells_set _ s ⟨s.pid + 64, true⟩ hs
theorem add_cells_new (hs : sl[freeAt sl]? = none) (a c : Value) : ((sgCells sl ++ [a, c]).set (sl.length * 2) (.int .i64 (addPid sl : Nat))).set (sl.length * 2 + 1) (.bool true) = sgCells (addTo sl) := by
  unfold addPid addTo
  rw [hs, sgCells_app, List.set_append_right _ _ (by rw [sgCells_len]; exact Nat.le_refl _), List.set_append_right _ _ (by rw [sgCells_len]; omega), sgCells_len, Nat.sub_self, show sl.length * 2 + 1 - sl.length * 2 = 1 by omega]
  rfl
theorem addTo_ok (h : SlOk B sl) (hf : freeAt sl < 64) : SlOk (B + 64) (addTo sl) := by
  unfold addTo
  cases hs : sl[freeAt sl]? with
  | some s =>
    obtain ⟨hlt, e⟩ := List.getElem?_eq_some_iff.1 hs
    refine ⟨fun k x hx => ?_, fun x hx => ?_⟩
    · by_cases ek : k = freeAt sl
      · subst ek
        simp only [] at hx
        rw [List.getElem?_set_self hlt] at hx
        obtain rfl := Option.some.inj hx
        have := h.at_ _ s hs
        show (s.pid + 64) % 64 = _
        omega
      · simp only [] at hx
        rw [List.getElem?_set_ne (fun e => ek e.symm)] at hx
        exact h.at_ k x hx
    · rcases List.mem_or_eq_of_mem_set hx with hx | rfl
      · have := h.le x hx
        omega
      · have := h.le s (List.mem_of_getElem? hs)
        show s.pid + 64 ≤ _
        omega
  | none =>
    have h1 := List.getElem?_eq_none_iff.1 hs
    have h2 := freeAt_le sl
    refine ⟨fun k x hx => ?_, fun x hx => ?_⟩
    · simp only [] at hx
      by_cases hk : k < sl.length
      · rw [List.getElem?_append_left hk] at hx
        exact h.at_ k x hx
      · have h3 := (List.getElem?_eq_some_iff.1 hx).1
        simp at h3
        obtain rfl : k = sl.length := by omega
        rw [List.getElem?_append_right (by omega), Nat.sub_self] at hx
        obtain rfl := Option.some.inj hx
        show sl.length % 64 = _
        omega
    · rcases List.mem_append.1 hx with hx | hx
      · have := h.le x hx
        omega
      · obtain rfl : x = ⟨sl.length, true⟩ := by simpa using hx
        show sl.length ≤ _
        omega
theorem addTo_len (h : freeAt sl < size) (hf : sl.length ≤ size) : (addTo sl).length ≤ size := by
  unfold addTo
  cases hs : sl[freeAt sl]? with
  | some s => simpa using hf
  | none =>
    have := List.getElem?_eq_none_iff.1 hs
    have := freeAt_le sl
    simp
    omega
theorem addTo_live {q : Int} (hq : kindAt sl q = 0) : kindAt (addTo sl) q = 0 := by
  rw [kindAt_live] at hq ⊢
  obtain ⟨s, h0, hs, he, ho⟩ := hq
  refine ⟨s, h0, ?_, he, ho⟩
  unfold addTo
  cases hf : sl[freeAt sl]? with
  | some x =>
    simp only []
    rw [List.getElem?_set_ne (fun e => ?_)]
    · exact hs
    · have := freeAt_off hf
      rw [e, hs] at hf
      obtain rfl := Option.some.inj hf
      rw [ho] at this
      cases this
  | none =>
    simp only []
    rw [List.getElem?_append_left (List.getElem?_eq_some_iff.1 hs).1]
    exact hs
def AddGo (b mb size B : Nat) (v : Value) (sl : List Sg) (ns : List Nm) (w w' : World) : Prop :=
  ∃ v', Tb w' b mb v' size (B + 64) (addTo sl) ns ∧ Kp (fun q => q = b ∨ v.ownBlock = some q) w w' ∧ ∀ g, v'.ownBlock = some g → v.ownBlock = some g ∨ w.heap.size ≤ g
/-- the two last stores of Add: into a row that is there -/
theorem add_old (h : Tb w b mb v size B sl ns) {s : Sg} (hs : sl[freeAt sl]? = some s) {g cap n : Nat} (hv : v = .slice (some ⟨g, 0, none⟩) n cap) :
    AddGo b mb size B v sl ns w ((w.setCell ⟨g, freeAt sl * 2, none⟩ (.int .i64 (addPid sl : Nat))).setCell ⟨g, freeAt sl * 2 + 1, none⟩ (.bool true)) := by
  have hlt := (List.getElem?_eq_some_iff.1 hs).1
  have hrow := h.row
  have hgb := h.vne g (by rw [hv]; rfl)
  subst hv
  have hn : sl.length = n := by
    obtain ⟨po, cap', e, -⟩ := ownsS_form hrow
    injection e with _ e
    omega
  subst hn
  have hr2 := ownsS_set (ownsS_set hrow (freeAt sl * 2) (.int .i64 (addPid sl : Nat)) (by omega)) (freeAt sl * 2 + 1) (.bool true) (by omega)
  rw [add_cells hlt hs] at hr2
  have hkp : Kp (fun q => q = g) w ((w.setCell ⟨g, freeAt sl * 2, none⟩ (.int .i64 (addPid sl : Nat))).setCell ⟨g, freeAt sl * 2 + 1, none⟩ (.bool true)) := ((Kp.refl (fun q => q = g) w).setCell _ _ (.inl rfl)).setCell _ _ (.inl rfl)
  have hal : (addTo sl).length = sl.length := by unfold addTo; rw [hs]; simp
  have hfs : freeAt sl < 64 := by have := h.fit; have := h.size2; omega
  refine ⟨_, ⟨(hkp.block b h.ltb (fun e => hgb.1 e.symm)).trans h.main, by rw [hal]; exact hr2, h.mp.kp hkp (fun e => hgb.2 e.symm), addTo_ok h.ok hfs, by rw [hal]; exact h.fit, h.size1, h.size2, h.few, h.lens, fun n hn => addTo_live (h.live n hn)⟩, hkp.mono (fun q _ e => .inr (by rw [e]; rfl)), fun g hg => .inl hg⟩
theorem Try.infoSlot : (Try.prog.info? 82).map (fun i => (i.zero, i.size, i.bytes)) = some (some (.agg #[.int .i64 0, .bool false]), 2, 16) := by kernel_rfl
set_option maxRecDepth 100000 in
/-- Add where no slot is free among those that were given -/
theorem add_new (h : Tb w b mb v size B sl ns) (hs : sl[freeAt sl]? = none) (hroom : sl.length < size) :
    ∃ g cap w3, (Builtin.append_ #[77, 77] 77 #[v, .slice (some ⟨w.heap.size, 0, none⟩) 1 1]).run Try.prog (w.alloc (.cells #[.int .i64 ((sl.length : Int) - 64), .bool false] 82)) = .ok (.slice (some ⟨g, 0, none⟩) (sl.length + 1) cap) w3 ∧
      sl.length + 1 ≤ cap ∧ cap ≤ 9223372036854775807 ∧
      w3.cell? ⟨b, 1, none⟩ = some v ∧ (∀ j, w3.frozen? ⟨b, j, none⟩ = false) ∧ w3.cell? ⟨g, sl.length * 2, none⟩ = some (.int .i64 ((sl.length : Int) - 64)) ∧ w3.cell? ⟨g, sl.length * 2 + 1, none⟩ = some (.bool false) ∧ (∀ j, w3.frozen? ⟨g, j, none⟩ = false) ∧ g ≠ b ∧
      AddGo b mb size B v sl ns w (((w3.setCell ⟨b, 1, none⟩ (.slice (some ⟨g, 0, none⟩) (sl.length + 1) cap)).setCell ⟨g, sl.length * 2, none⟩ (.int .i64 (addPid sl : Nat))).setCell ⟨g, sl.length * 2 + 1, none⟩ (.bool true)) := by
  obtain ⟨i0, hi, hz0, hz1, hz2⟩ := info_parts Try.infoSlot
  obtain ⟨w1, hw1⟩ : ∃ w1, w.alloc (.cells #[.int .i64 ((sl.length : Int) - 64), .bool false] 82) = w1 := ⟨_, rfl⟩
  have hk1 : Kp (fun _ => False) w w1 := by rw [← hw1]; exact (Kp.refl _ w).alloc _
  have hc1 : w1.heap[w.heap.size]? = some (.cells #[.int .i64 ((sl.length : Int) - 64), .bool false] 82 (0, 0)) := by rw [← hw1]; exact heap_alloc_new w _
  have h1 := h.same hk1
  have hsz : sl.length < 64 := by have := h.size2; omega
  obtain ⟨v', w3, hr, ho, hg, hnew⟩ := run_append_s (P := Try.prog) w1 77 77 82 i0 _ 2 16 Try.underlying77 hi hz0 hz1 hz2 rfl v sl.length (sgCells sl) h1.row
    (some ⟨w.heap.size, 0, none⟩) 1 1 [.int .i64 ((sl.length : Int) - 64), .bool false] rfl (fun _ => ⟨_, rfl, fun j u hj => by
      rw [Go.WideShapes.add_plain, cell_of_row w1 _ _ _ _ _ hc1, Nat.zero_add]
      simpa using hj⟩) (by intro u hu; simp at hu; rcases hu with rfl | rfl <;> rfl) (by unfold maxLen; omega) (by omega)
  have hk3 : Kp (fun q => v.ownBlock = some q) w1 w3 := (Kp.refl _ w1).grown hg (fun k e => .inl e)
  obtain ⟨po, cap, rfl, hcap, hcap2⟩ := ownsS_form ho
  have hown : ∃ g, po = some ⟨g, 0, none⟩ := by
    rcases ho.2 with ⟨_, e⟩ | ⟨g, _, _, e, _⟩
    · omega
    · injection e with e
      exact ⟨g, e⟩
  obtain ⟨g, rfl⟩ := hown
  have hb1 : w1.heap[b]? = some (.cells #[.int .i64 (size : Nat), v, .map (some mb)] 79 (0, 0)) := h1.main
  have hb3 : w3.heap[b]? = some (.cells #[.int .i64 (size : Nat), v, .map (some mb)] 79 (0, 0)) := (hk3.block b h1.ltb (fun e => (h1.vne b e).1 rfl)).trans hb1
  have hgb : g ≠ b ∧ g ≠ mb := by
    rcases hnew g rfl with e | e
    · exact h1.vne g e
    · have := h1.ltb
      have := h1.mp.lt
      exact ⟨by omega, by omega⟩
  have hl : (sgCells sl ++ [Value.int .i64 ((sl.length : Int) - 64), Value.bool false]).length = (sl.length + 1) * 2 := by rw [List.length_append, sgCells_len]; simp; omega
  have hcell : ∀ j x, (sgCells sl ++ [Value.int .i64 ((sl.length : Int) - 64), Value.bool false])[j]? = some x → w3.cell? ⟨g, j, none⟩ = some x := by
    intro j x hj
    obtain ⟨g', cap', e, _, _, hc⟩ := ownsS_get ho j x hj
    injection e with e
    injection e with e
    injection e with e
    rw [e]; exact hc
  refine ⟨g, cap, w3, by rw [hw1]; exact hr, hcap, hcap2, by rw [cell_of_row w3 b 1 _ _ _ hb3]; rfl, fun j => by simp [World.frozen?, hb3], hcell _ _ ?_, hcell _ _ ?_, fun j => ownsS_fz ho j, hgb.1, ?_⟩
  · rw [List.getElem?_append_right (by rw [sgCells_len]; exact Nat.le_refl _), sgCells_len, Nat.sub_self]; rfl
  · rw [List.getElem?_append_right (by rw [sgCells_len]; omega), sgCells_len, show sl.length * 2 + 1 - sl.length * 2 = 1 by omega]; rfl
  · obtain ⟨w4, hw4⟩ : ∃ w4, w3.setCell ⟨b, 1, none⟩ (.slice (some ⟨g, 0, none⟩) (sl.length + 1) cap) = w4 := ⟨_, rfl⟩
    rw [hw4]
    have hk4 : Kp (fun q => q = b) w3 w4 := by rw [← hw4]; exact (Kp.refl _ w3).setCell _ _ (.inl rfl)
    have hb4 : w4.heap[b]? = some (.cells #[.int .i64 (size : Nat), .slice (some ⟨g, 0, none⟩) (sl.length + 1) cap, .map (some mb)] 79 (0, 0)) := by rw [← hw4]; exact heap_setT hb3 _
    have ho4 := hk4.rowS ho (fun k hk e => hgb.1 (by injection hk with hk; exact hk.trans e))
    have hr2 := ownsS_set (ownsS_set ho4 (sl.length * 2) (.int .i64 (addPid sl : Nat)) (by omega)) (sl.length * 2 + 1) (.bool true) (by omega)
    rw [add_cells_new hs] at hr2
    have hk5 : Kp (fun q => q = g) w4 ((w4.setCell ⟨g, sl.length * 2, none⟩ (.int .i64 (addPid sl : Nat))).setCell ⟨g, sl.length * 2 + 1, none⟩ (.bool true)) := ((Kp.refl (fun q => q = g) w4).setCell _ _ (.inl rfl)).setCell _ _ (.inl rfl)
    have hal : (addTo sl).length = sl.length + 1 := by unfold addTo; rw [hs]; simp
    have hfl : freeAt sl = sl.length := by
      have := List.getElem?_eq_none_iff.1 hs
      have := freeAt_le sl
      omega
    have hz1' := hk1.size
    have hz3 := hk3.size
    have hltb := h.ltb
    refine ⟨_, ⟨(hk5.block b (by rw [← hw4]; simp [World.setCell]; omega) (fun e => hgb.1 e.symm)).trans hb4, by rw [hal]; exact hr2, ?_, addTo_ok h.ok (by omega), by rw [hal]; omega, h.size1, h.size2, h.few, h.lens, fun n hn => addTo_live (h.live n hn)⟩, ?_, ?_⟩
    · exact ((h1.mp.kp hk3 (fun e => (h1.vne mb e).2 rfl)).kp hk4 (fun e => h.bne e.symm)).kp hk5 (fun e => hgb.2 e.symm)
    · refine (((hk1.mono (fun _ _ e => e.elim)).trans' (hk3.mono fun q _ e => .inr e)).trans' (hk4.mono fun q _ e => .inl e)).trans (hk5.mono fun q hq e => ?_)
      subst e
      rcases hnew q rfl with e | e
      · exact .inl (.inr e)
      · exact .inr ⟨by omega, hq⟩
    · intro k hk
      rcases hnew k hk with e | e
      · exact .inl e
      · exact .inr (by omega)
theorem free_at (h : Tb w b mb v size B sl ns) {f : Nat} (hf : freeAt sl = f) : Calls Try.prog 37 #[.pointer (some ⟨b, 0, none⟩)] w (fun e w' => e = .returned (.int .i64 (f : Nat)) ∧ Kp (fun _ => False) w w') := by
  rw [← hf]; exact free_any h
def AddTo (b mb size B : Nat) (v : Value) (sl : List Sg) (ns : List Nm) (w : World) (e : Ending) (w' : World) : Prop :=
  e = .returned (.tuple #[.int .i64 (addPid sl : Nat), .nilIface]) ∧ AddGo b mb size B v sl ns w w'
theorem AddGo.before {w1 : World} (h : AddGo b mb size B v sl ns w1 w') (hk : Kp (fun _ => False) w w1) : AddGo b mb size B v sl ns w w' := by
  obtain ⟨v', h1, h2, h3⟩ := h
  refine ⟨v', h1, (hk.mono (fun _ _ e => e.elim)).trans' h2, fun g hg => (h3 g hg).imp id (fun e => Nat.le_trans hk.size e)⟩
set_option maxRecDepth 100000 in
set_option maxHeartbeats 4000000 in
theorem add_full (h : Tb w b mb v size B sl ns) (hf : freeAt sl = size) :
    Calls Try.prog 11 #[.pointer (some ⟨b, 0, none⟩)] w (EBad w (fun v => .tuple #[.int .i64 (-1), v]) [Lk.fault ⟨#[97, 100, 100]⟩ (size : Nat), Lk.kind 2]) := by
  have HF := Lib.hid (free_at h hf)
  obtain ⟨c0, -, -, -⟩ := h.facts
  have HT := Lib.hid h
  clear h hf
  go_enter Try.func11, Try.ntmps11
  go_wp2_with fail
  refine HF.out.mono ?_
  rintro e w1 ⟨rfl, hk⟩
  have HB := Lib.hid ((ebad1 w1 (fun v => .tuple #[.int .i64 (-1), v]) ⟨#[97, 100, 100]⟩ (size : Nat) 2 (by decide) 0).drew hk)
  obtain ⟨d0, -, -, -⟩ := (HT.out.same hk).facts
  clear hk HF
  go_wp2_with (go_at_call 36; refine (at_any _ _ _ _ _).mono ?_; rintro e w' ⟨rfl, rfl⟩)
  go_ret2
  exact HB.out
set_option maxRecDepth 100000 in
set_option maxHeartbeats 4000000 in
theorem add_ok (h : Tb w b mb v size B sl ns) (hf : freeAt sl < size) (hB : B + 64 ≤ 2305843009213693952) :
    Calls Try.prog 11 #[.pointer (some ⟨b, 0, none⟩)] w (AddTo b mb size B v sl ns w) := by
  have HT := Lib.hid h
  obtain ⟨f, hff⟩ : ∃ f, freeAt sl = f := ⟨_, rfl⟩
  have HF := Lib.hid (free_at h hff)
  have hf64 : f < 64 := by have := h.size2; omega
  have n1 : ¬ (f : Int) = size := by omega
  have n1b : ((f : Int) == (size : Nat)) = false := by rw [beq_eq_false_iff_ne]; exact n1
  cases hs : sl[freeAt sl]? with
  | some s =>
    obtain ⟨hlt, -⟩ := List.getElem?_eq_some_iff.1 hs
    have hsB := h.ok.le s (List.mem_of_getElem? hs)
    have hap : addPid sl = s.pid + 64 := by unfold addPid; rw [hs]
    have HA := Lib.hid (And.intro hs (And.intro hap hff))
    rw [hff] at hlt hf
    obtain ⟨n, hn⟩ : ∃ n, sl.length = n := ⟨_, rfl⟩
    have HN := Lib.hid hn
    rw [hn] at hlt
    have n2 : ¬ (f : Int) = n := by omega
    have n2b : ((f : Int) == (n : Nat)) = false := by rw [beq_eq_false_iff_ne]; exact n2
    have n3 : (f : Int) < n := by omega
    clear h hs hap hff hn
    go_enter Try.func11, Try.ntmps11
    go_wp2_with fail
    refine HF.out.mono ?_
    rintro e w1 ⟨rfl, hk⟩
    have h1 := HT.out.same hk
    obtain ⟨c0, c1, c2, fb⟩ := h1.facts
    obtain ⟨g, cap, hv, hcap, hcap2, d0, d1⟩ := h1.slot HA.out.1
    have HG := Lib.hid ((add_old h1 HA.out.1 hv).before hk)
    rw [HA.out.2.2] at d0 d1 HG
    rw [HN.out] at hv hcap
    rw [HA.out.2.1] at HG
    have hrow := h1.row
    rw [hv] at c1 hrow
    have fg := ownsS_fz (by rw [HN.out] at hrow; exact hrow)
    have hgb : g ≠ b := (h1.vne g (by rw [hv]; rfl)).1
    obtain ⟨P, hP⟩ : ∃ P, s.pid = P := ⟨_, rfl⟩
    rw [hP] at d0 HG hsB
    have hPP : ((P + 64 : Nat) : Int) = (P : Int) + 64 := by omega
    rw [hPP] at HG
    have HP := Lib.hid (And.intro hP hPP)
    clear hk h1 hv hrow HF hP hPP
    go_wp2_with fail
    go_ret2
    exact ⟨ret2 (by rw [HA.out.2.1, HP.out.1]; exact HP.out.2.symm), HG.out⟩
  | none =>
    have h1 := List.getElem?_eq_none_iff.1 hs
    have h2 := freeAt_le sl
    have hlf : sl.length = f := by omega
    have hap : addPid sl = f := by unfold addPid; rw [hs]; exact hlf
    have HA := Lib.hid (And.intro hs (And.intro hap hlf))
    rw [hff] at hf
    clear h hs hap hff h1 h2
    go_enter Try.func11, Try.ntmps11
    go_wp2_with fail
    refine HF.out.mono ?_
    rintro e w1 ⟨rfl, hk⟩
    have h1 := HT.out.same hk
    obtain ⟨c0, c1, c2, fb⟩ := h1.facts
    obtain ⟨po, cp, hv, -, -⟩ := ownsS_form h1.row
    obtain ⟨g, cap, w3, hr, hcap, hcap2, b1, fb3, d0, d1, fg, hgb, hgo⟩ := add_new h1 HA.out.1 (by rw [HA.out.2.2]; exact hf)
    rw [HA.out.2.1, HA.out.2.2] at hgo
    rw [HA.out.2.2] at hr hcap d0 d1 hv
    have HG := Lib.hid (hgo.before hk)
    have HR := Lib.hid hr
    rw [hv] at c1 b1 HR
    have hbg : b ≠ g := fun e => hgb e.symm
    have n3 : (f : Int) < f + 1 := by omega
    have hcap3 : (f : Int) + 1 ≤ cap := by omega
    clear hk h1 hv HF hr hgo hlf
    go_wp2_with (at_builtin; refine wpList_run rfl _ _ 77 rfl (.slice po f cp) (.slice (some ⟨w1.heap.size, 0, none⟩) 1 1) rfl rfl _ w3 HR.out ?_)
    go_ret2
    exact ⟨ret2 (by rw [HA.out.2.1]), HG.out⟩
end
end Go.Proofs.Ytdcmdidikengbaa
