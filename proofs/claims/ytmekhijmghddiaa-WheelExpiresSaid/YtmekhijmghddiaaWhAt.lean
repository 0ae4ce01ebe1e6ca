/- A wheel beside a row of ints: when each timer expires, or -1. -/
import Derived.Test.YtmekhijmghddiaaWhTwo
namespace Go.Proofs.Ytmekhijmghddiaa
open Go.RowKit

theorem Try.infoInts : (Try.prog.info? 3).map (fun i => (i.zero, i.size, i.bytes)) = some (some (.int .i64 0), 1, 8) := by kernel_rfl
/-- ints of one's own -/
def Iw (w : World) (v : Value) (l : List Int) : Prop := w.ownsW 0 3 v l.length (lv l)
section
variable {F : Nat → Prop} {w w' : World} {v : Value} {l : List Int}
theorem Iw.kp (h : Iw w v l) (hk : Kp F w w') (hF : ∀ g, v.ownBlock = some g → ¬ F g) : Iw w' v l := hk.roww h hF
theorem Iw.lt (h : Iw w v l) : ∀ k, v.ownBlock = some k → k < w.heap.size := fun k hk => (ownsW_lt h k hk).2
theorem Iw.same (h : Iw w v l) (hk : Kp (fun _ => False) w w') : Iw w' v l := h.kp hk (fun _ _ e => e)
theorem Iw.form (h : Iw w v l) : ∃ po cap, v = .slice po l.length cap := ownsW_form h
theorem Iw.get (h : Iw w v l) {j : Nat} {x : Int} (hj : l[j]? = some x) : ∃ g cap, v = .slice (some ⟨g, 0, none⟩) l.length cap ∧ l.length ≤ cap ∧ cap ≤ 9223372036854775807 ∧ w.cell? ⟨g, j, none⟩ = some (.int .i64 x) :=
  ownsW_get h j _ (lv_get hj)
theorem Iw.fz {g cap n : Nat} (h : Iw w (.slice (some ⟨g, 0, none⟩) n cap) l) (o : Nat) : w.frozen? ⟨g, o, none⟩ = false := by
  rcases h.2 with ⟨e, _⟩ | ⟨g', cap', cur, e, hb, hg, _⟩
  · cases e
  · injection e with e1
    injection e1 with e1
    injection e1 with e1
    subst e1
    simp [World.frozen?, hg]
theorem ints_push (ho : Iw w v l) (hk : l.length + 1 ≤ 17592186044416) (x : Int) :
    ∃ g cap w', (Builtin.append_ #[60, 60] 60 #[v, .slice (some ⟨w.heap.size, 0, none⟩) 1 1]).run Try.prog (w.alloc (.cells #[.int .i64 x] 3)) = .ok (.slice (some ⟨g, 0, none⟩) (l.length + 1) cap) w' ∧
      Iw w' (.slice (some ⟨g, 0, none⟩) (l.length + 1) cap) (l ++ [x]) ∧ Kp (fun q => v.ownBlock = some q) w w' ∧ (v.ownBlock = some g ∨ w.heap.size ≤ g) ∧ g < w'.heap.size := by
  obtain ⟨i0, hi, hz0, hz1, hz2⟩ := info_parts Try.infoInts
  have hka : Kp (fun _ => False) w (w.alloc (.cells #[.int .i64 x] 3)) := (Kp.refl _ w).alloc _
  have hown : (w.alloc (.cells #[.int .i64 x] 3)).ownsW 0 3 v l.length (lv l) := ho.same hka
  obtain ⟨g, cap, w', h1, h2, h3, h4, h5⟩ := run_append_w (P := Try.prog) _ 60 60 0 3 i0 (.int .i64 0) 8 Try.underlying60 hi hz0 hz1 hz2 rfl v l.length (lv l) hown ⟨w.heap.size, 0, none⟩ 1 (.int .i64 x)
    (by rw [cell_of_row _ w.heap.size 0 _ _ _ (heap_alloc_new w _)]; rfl) rfl (by unfold maxLen; omega) (by omega) (Nat.zero_le _)
  refine ⟨g, cap, w', h1, ?_, ((Kp.refl _ w).alloc _).grown h3 (fun q hq => .inl hq), ?_, h5⟩
  · unfold Iw
    rw [List.length_append, ← lv_app]
    exact h2
  · rcases h4 with h4 | h4
    · exact .inl h4
    · exact .inr (by rw [h4]; simp)
theorem ints_set {g cap : Nat} (h : Iw w (.slice (some ⟨g, 0, none⟩) l.length cap) l) (k : Nat) (x : Int) :
    Iw (w.setCell ⟨g, k, none⟩ (.int .i64 x)) (.slice (some ⟨g, 0, none⟩) l.length cap) (l.set k x) ∧ Kp (fun q => q = g) w (w.setCell ⟨g, k, none⟩ (.int .i64 x)) := by
  rcases h.2 with ⟨e, _⟩ | ⟨g', cap', cur, e, hb, hg, h2, h3, h4, h5⟩
  · cases e
  · injection e with e1 _ e2
    injection e1 with e1
    injection e1 with e1
    subst e1 e2
    refine ⟨?_, (Kp.refl _ w).setCell _ _ (.inl rfl)⟩
    unfold Iw
    rw [List.length_set]
    refine ⟨by rw [lv_len, List.length_set], .inr ⟨g, cap, _, rfl, hb, wh_heap_set hg _, h2, by simpa using h3, h4, ?_⟩⟩
    rw [Array.toList_setIfInBounds, List.take_set, h5]
    unfold lv
    rw [List.map_set]
end

/-- what the row says of the timers that are there -/
def AtIs (P : Tm → Prop) (l : List Int) : Prop := (∀ t, P t → l[t.id]? = some (t.due : Int)) ∧ ∀ k, k < l.length → (∀ t, P t → t.id ≠ k) → l[k]? = some (-1)
theorem AtIs.congr {P Q : Tm → Prop} {l : List Int} (h : AtIs P l) (hPQ : ∀ t, P t ↔ Q t) : AtIs Q l :=
  ⟨fun t ht => h.1 t ((hPQ t).2 ht), fun k hk hn => h.2 k hk (fun t ht => hn t ((hPQ t).1 ht))⟩
theorem AtIs.snoc {P : Tm → Prop} {l : List Int} (h : AtIs P l) (t : Tm) (hid : t.id = l.length) : AtIs (fun x => P x ∨ x = t) (l ++ [(t.due : Int)]) := by
  refine ⟨fun x hx => ?_, fun k hk hn => ?_⟩
  · rcases hx with hx | rfl
    · have h1 := h.1 x hx
      have hlt := (List.getElem?_eq_some_iff.1 h1).1
      rw [List.getElem?_append_left hlt]
      exact h1
    · rw [hid, List.getElem?_append_right (by omega)]
      simp
  · have hne := hn t (.inr rfl)
    simp at hk
    rw [List.getElem?_append_left (by omega)]
    exact h.2 k (by omega) (fun x hx => hn x (.inl hx))
theorem AtIs.strike {P : Tm → Prop} {l : List Int} (h : AtIs P l) (k : Nat) : AtIs (fun x => P x ∧ x.id ≠ k) (l.set k (-1)) := by
  refine ⟨fun x hx => ?_, fun j hj hn => ?_⟩
  · rw [List.getElem?_set_ne (Ne.symm hx.2)]
    exact h.1 x hx.1
  · rw [List.length_set] at hj
    by_cases e : j = k
    · subst e
      rw [List.getElem?_set_self hj]
    · rw [List.getElem?_set_ne (Ne.symm e)]
      refine h.2 j hj (fun x hx e2 => hn x ⟨hx, ?_⟩ e2)
      omega

/-- a wheel and a row of ints of one's own, newer than w0 -/
structure WhAt (w0 w : World) (b now fresh : Nat) (ts : List Tm) (v : Value) (l : List Int) : Prop where
  wheel : ∃ G, WhG w G b 500 now fresh ts ∧ (∀ q, G q → w0.heap.size ≤ q) ∧ ∀ g, v.ownBlock = some g → ¬ G g
  row : Iw w v l
  own : ∀ g, v.ownBlock = some g → w0.heap.size ≤ g
  kp : Kp (fun _ => False) w0 w

section
variable {F : Nat → Prop} {w0 w w' : World} {b now fresh : Nat} {ts : List Tm} {v v' : Value} {l l' : List Int} {id : Int} {t : Tm}
theorem WhAt.same (h : WhAt w0 w b now fresh ts v l) (hk : Kp (fun _ => False) w w') : WhAt w0 w' b now fresh ts v l := by
  obtain ⟨G, h1, h2, h3⟩ := h.wheel
  exact ⟨⟨G, h1.same hk, h2, h3⟩, h.row.same hk, h.own, h.kp.trans' hk⟩
theorem WhAt.nodup (h : WhAt w0 w b now fresh ts v l) : (ts.map Tm.id).Nodup := by
  obtain ⟨G, h1, h2, h3⟩ := h.wheel
  exact h1.nodup
theorem WhAt.ids (h : WhAt w0 w b now fresh ts v l) : ∀ t ∈ ts, t.id < fresh := by
  obtain ⟨G, h1, h2, h3⟩ := h.wheel
  exact h1.ids
theorem at_new {e : Ending} (h2 : GNew 500 w e w') : ∃ b, e = .returned (.tuple #[.pointer (some ⟨b, 0, none⟩), .nilIface]) ∧ WhAt w w' b 0 0 [] (.slice none 0 0) [] := by
  obtain ⟨b, rfl, h3, h4⟩ := h2
  exact ⟨b, rfl, ⟨_, h3, fun q hq => hq.1, (fun g hg => by cases hg)⟩, ownsW_nil _ _ _, (fun g hg => by cases hg), h4⟩
theorem at_start (h : WhAt w0 w b now fresh ts v l) (n : Nat) (wht : Int) (hn : n ≤ 1073741824) (hnow : now + 1073741824 ≤ 2305843009213693952) (hfr : fresh + 1 ≤ 4611686018427387904) (hf : ts.length < 500) :
    Calls Try.prog 14 #[.pointer (some ⟨b, 0, none⟩), .int .i64 (n : Nat), .int .i64 wht] w fun e w' => e = .returned (.tuple #[.int .i64 (fresh : Nat), .nilIface]) ∧ ∃ g, WhAt w0 w' b now (fresh + 1) (ts ++ [⟨fresh, wht, now + n, g⟩]) v l := by
  obtain ⟨G, h1, h2, h3⟩ := h.wheel
  refine (g_start h1 n wht hn hnow hfr hf (by omega)).mono ?_
  rintro e w' ⟨rfl, g, h6, h7⟩
  refine ⟨rfl, g, ⟨_, h6, fun q hq => hq.elim (h2 q) (fun e => Nat.le_trans h.kp.size e.1), fun g' hg hq => ?_⟩, h.row.kp h7 (fun g' hg hq => h3 g' hg hq), h.own, kp_in h.kp h7 h2⟩
  rcases hq with hq | hq
  · exact h3 g' hg hq
  · have := h.row.lt g' hg; omega
theorem at_cancel (h : WhAt w0 w b now fresh ts v l) (hid : (Lit.int .i64 id).wf = true) (ht : tmOf ts id = some t) :
    Calls Try.prog 16 #[.pointer (some ⟨b, 0, none⟩), .int .i64 id] w fun e w' => e = .returned (.tuple #[.int .i64 ((t.due - now : Nat) : Int), .nilIface]) ∧ WhAt w0 w' b now fresh (without ts id) v l := by
  obtain ⟨G, h1, h2, h3⟩ := h.wheel
  refine (g_cancel h1 hid ht).mono ?_
  rintro e w' ⟨rfl, h4, h5⟩
  exact ⟨rfl, ⟨G, h4, h2, h3⟩, h.row.kp h5 (fun g hg hq => h3 g hg hq), h.own, kp_in h.kp h5 h2⟩
theorem at_cancel_none (h : WhAt w0 w b now fresh ts v l) (hid : (Lit.int .i64 id).wf = true) (ht : tmOf ts id = none) :
    Calls Try.prog 16 #[.pointer (some ⟨b, 0, none⟩), .int .i64 id] w fun e w' => (∃ g, e = .returned (.tuple #[.int .i64 0, .iface 104 (.pointer (some ⟨g, 0, none⟩))])) ∧ WhAt w0 w' b now fresh ts v l := by
  obtain ⟨G, h1, h2, h3⟩ := h.wheel
  refine (g_cancel_none h1 hid ht).mono ?_
  rintro e w' ⟨u, rfl, hu, hk⟩
  obtain ⟨g, rfl⟩ := hu.out.form
  exact ⟨⟨g, rfl⟩, h.same hk⟩
def TickAt (w0 : World) (b fresh : Nat) (ts : List Tm) (en : Nat) (v : Value) (l : List Int) (e : Ending) (w' : World) : Prop :=
  ∃ u o ts', e = .returned u ∧ Lw w' u (idsOf o) ∧ (∀ g, u.ownBlock = some g → v.ownBlock ≠ some g) ∧ DueBy ts en o ts' ∧ WhAt w0 w' b en fresh ts' v l
theorem at_tick (h : WhAt w0 w b now fresh ts v l) (n : Nat) (hn : n ≤ 1048576) (hnow : now ≤ 1152921504606846976) (hlen : ts.length ≤ 17592186044416) :
    Calls Try.prog 22 #[.pointer (some ⟨b, 0, none⟩), .int .i64 (n : Nat)] w (TickAt w0 b fresh ts (now + n) v l) := by
  obtain ⟨G, h1, h2, h3⟩ := h.wheel
  refine (g_tick h1 (n : Nat) (by omega) (by omega) (by omega) hlen).mono ?_
  rw [ticksOf_nat hn]
  rintro e w' ⟨u, o, ts', rfl, h6, h7, h8, h9, h10⟩
  refine ⟨u, o, ts', rfl, h6, fun g hg e => ?_, h8, ⟨G, h9, h2, h3⟩, h.row.kp h10 (fun g hg hq => h3 g hg hq), h.own, kp_in h.kp h10 h2⟩
  have := h7 g hg
  have := h.row.lt g e
  omega
theorem WhAt.turned (h : WhAt w0 w b now fresh ts v l) (hr : Iw w' v' l') (hk : Kp (fun q => v.ownBlock = some q) w w') (hg : ∀ g, v'.ownBlock = some g → v.ownBlock = some g ∨ w.heap.size ≤ g) : WhAt w0 w' b now fresh ts v' l' := by
  obtain ⟨G, h1, h2, h3⟩ := h.wheel
  refine ⟨⟨G, h1.kp hk (fun q hq e => h3 q e hq), h2, fun g e => ?_⟩, hr, fun g e => ?_, kp_in h.kp hk h.own⟩
  · rcases hg g e with e2 | e2
    · exact h3 g e2
    · exact fun hq => by have := h1.lt g hq; omega
  · rcases hg g e with e2 | e2
    · exact h.own g e2
    · exact Nat.le_trans h.kp.size e2
theorem WhAt.set {g cap : Nat} (h : WhAt w0 w b now fresh ts (.slice (some ⟨g, 0, none⟩) l.length cap) l) (k : Nat) (x : Int) :
    WhAt w0 (w.setCell ⟨g, k, none⟩ (.int .i64 x)) b now fresh ts (.slice (some ⟨g, 0, none⟩) l.length cap) (l.set k x) := by
  obtain ⟨h1, h2⟩ := ints_set h.row k x
  exact h.turned h1 (h2.mono fun q _ e => by rw [e]; rfl) (fun _ e => .inl e)
end
end Go.Proofs.Ytmekhijmghddiaa
