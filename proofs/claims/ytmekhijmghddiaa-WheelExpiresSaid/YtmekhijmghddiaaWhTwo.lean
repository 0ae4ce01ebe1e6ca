/- Two wheels and a row of longs beside one another; Ticks in parts. -/
import Derived.Test.YtmekhijmghddiaaWhUse
import Derived.Test.YtmekhijmghddiaaIn
namespace Go.Proofs.Ytmekhijmghddiaa
open Go.RowKit

section
variable {ts0 ts ts' o o' tsA tsB oA oB tA tB : List Tm} {now e : Nat}
def tmKey (t : Tm) : Nat × Nat := (t.id, t.due)
def KeyLt (a c : Nat × Nat) : Prop := a.2 < c.2 ∨ (a.2 = c.2 ∧ a.1 < c.1)
theorem keyLt_unique : ∀ {l1 l2 : List (Nat × Nat)}, l1.Pairwise KeyLt → l2.Pairwise KeyLt → (∀ t, t ∈ l1 ↔ t ∈ l2) → l1 = l2
  | [], [], _, _, _ => rfl
  | [], b :: l2, _, _, hm => by have := (hm b).2 (by simp); simp at this
  | a :: l1, [], _, _, hm => by have := (hm a).1 (by simp); simp at this
  | a :: l1, b :: l2, h1, h2, hm => by
    have irr : ∀ t : Nat × Nat, ¬ KeyLt t t := fun t => by unfold KeyLt; omega
    rw [List.pairwise_cons] at h1 h2
    have hab : a = b := by
      rcases List.mem_cons.1 ((hm a).1 (by simp)) with e | h3
      · exact e
      · rcases List.mem_cons.1 ((hm b).2 (by simp)) with e | h4
        · exact e.symm
        · have h5 := h1.1 b h4
          have h6 := h2.1 a h3
          unfold KeyLt at h5 h6
          omega
    subst hab
    rw [keyLt_unique h1.2 h2.2 (fun t => ?_)]
    constructor
    · intro ht
      rcases List.mem_cons.1 ((hm t).1 (by simp [ht])) with e | h3
      · subst e
        exact absurd (h1.1 _ ht) (irr _)
      · exact h3
    · intro ht
      rcases List.mem_cons.1 ((hm t).2 (by simp [ht])) with e | h3
      · subst e
        exact absurd (h2.1 _ ht) (irr _)
      · exact h3
theorem DueBy.keys (h : DueBy ts e o ts') : (o.map tmKey).Pairwise KeyLt ∧ (∀ k, k ∈ o.map tmKey ↔ k ∈ ts.map tmKey ∧ k.2 ≤ e) ∧ ts'.map tmKey = (ts.map tmKey).filter fun k => decide (e < k.2) := by
  refine ⟨List.pairwise_map.2 h.sorted, fun k => ?_, ?_⟩
  · constructor
    · intro hk
      obtain ⟨t, ht, rfl⟩ := List.mem_map.1 hk
      have := (h.mem t).1 ht
      exact ⟨List.mem_map_of_mem this.1, this.2⟩
    · rintro ⟨hk, hle⟩
      obtain ⟨t, ht, rfl⟩ := List.mem_map.1 hk
      exact List.mem_map_of_mem ((h.mem t).2 ⟨ht, hle⟩)
  · rw [h.rest, List.filter_map]
    rfl
/-- two wheels with the same timers tell the same -/
theorem due_same (hA : DueBy tsA e oA tA) (hB : DueBy tsB e oB tB) (hk : tsA.map tmKey = tsB.map tmKey) : idsOf oA = idsOf oB ∧ tA.length = tB.length := by
  obtain ⟨a1, a2, a3⟩ := hA.keys
  obtain ⟨b1, b2, b3⟩ := hB.keys
  constructor
  · have h1 : oA.map tmKey = oB.map tmKey := keyLt_unique a1 b1 (fun k => by rw [a2, b2, hk])
    have h2 : ∀ l : List Tm, idsOf l = (l.map tmKey).map fun k => (k.1 : Int) := fun l => by simp [idsOf, tmKey]
    rw [h2, h2, h1]
  · have : (tA.map tmKey).length = (tB.map tmKey).length := by rw [a3, b3, hk]
    simpa using this
/-- a Tick more -/
theorem DueBy.then (h : DueBy ts0 now o ts) (h' : DueBy ts e o' ts') (hle : now ≤ e) : DueBy ts0 e (o ++ o') ts' := by
  refine ⟨?_, fun t => ?_, ?_⟩
  · rw [List.pairwise_append]
    refine ⟨h.sorted, h'.sorted, fun a ha c hc => .inl ?_⟩
    have h1 := ((h.mem a).1 ha).2
    have h2 := ((h'.mem c).1 hc).1
    rw [h.rest, List.mem_filter] at h2
    have := h2.2
    simp at this
    omega
  · rw [List.mem_append, h.mem, h'.mem, h.rest, List.mem_filter]
    constructor
    · rintro (⟨a, b⟩ | ⟨⟨a, b⟩, c⟩)
      · exact ⟨a, by omega⟩
      · exact ⟨a, c⟩
    · rintro ⟨a, b⟩
      by_cases h3 : t.due ≤ now
      · exact .inl ⟨a, h3⟩
      · exact .inr ⟨⟨a, by simp; omega⟩, b⟩
  · rw [h'.rest, h.rest, List.filter_filter]
    apply List.filter_congr
    intro t ht
    rw [Bool.eq_iff_iff]
    simp
    intro h3
    omega
theorem DueBy.zero (h : ∀ t ∈ ts, now < t.due) : DueBy ts now [] ts := by
  refine ⟨List.Pairwise.nil, fun t => ?_, ?_⟩
  · constructor
    · intro ht; simp at ht
    · rintro ⟨h1, h2⟩
      have := h t h1
      omega
  · rw [eq_comm, List.filter_eq_self]
    intro t ht
    simpa using h t ht
end

/-- two wheels, and a row of longs of one's own, all newer than w0 -/
structure Two (w0 w : World) (b1 n1 f1 : Nat) (ts1 : List Tm) (b2 n2 f2 : Nat) (ts2 : List Tm) (v : Value) (l : List Int) : Prop where
  wheels : ∃ G1 G2, WhG w G1 b1 1000 n1 f1 ts1 ∧ WhG w G2 b2 1000 n2 f2 ts2 ∧ (∀ q, G1 q → ¬ G2 q) ∧ (∀ q, G1 q ∨ G2 q → w0.heap.size ≤ q) ∧ ∀ g, v.ownBlock = some g → ¬ G1 g ∧ ¬ G2 g
  row : Lw w v l
  own : ∀ g, v.ownBlock = some g → w0.heap.size ≤ g
  kp : Kp (fun _ => False) w0 w

section
variable {F : Nat → Prop} {w0 w w' : World} {b1 n1 f1 b2 n2 f2 : Nat} {ts1 ts2 : List Tm} {v v' : Value} {l : List Int}
theorem Two.same (h : Two w0 w b1 n1 f1 ts1 b2 n2 f2 ts2 v l) (hk : Kp (fun _ => False) w w') : Two w0 w' b1 n1 f1 ts1 b2 n2 f2 ts2 v l := by
  obtain ⟨G1, G2, h1, h2, h3, h4, h5⟩ := h.wheels
  exact ⟨⟨G1, G2, h1.same hk, h2.same hk, h3, h4, h5⟩, h.row.same hk, h.own, h.kp.trans' hk⟩
theorem two_startA (h : Two w0 w b1 n1 f1 ts1 b2 n2 f2 ts2 v l) (n : Nat) (wht : Int) (hn : n ≤ 1073741824) (hnow : n1 + 1073741824 ≤ 2305843009213693952) (hfr : f1 + 1 ≤ 4611686018427387904) (hf : ts1.length < 1000) :
    Calls Try.prog 14 #[.pointer (some ⟨b1, 0, none⟩), .int .i64 (n : Nat), .int .i64 wht] w fun e w' => e = .returned (.tuple #[.int .i64 (f1 : Nat), .nilIface]) ∧ ∃ g, Two w0 w' b1 n1 (f1 + 1) (ts1 ++ [⟨f1, wht, n1 + n, g⟩]) b2 n2 f2 ts2 v l := by
  obtain ⟨G1, G2, h1, h2, h3, h4, h5⟩ := h.wheels
  refine (g_start h1 n wht hn hnow hfr hf (by omega)).mono ?_
  rintro e w' ⟨rfl, g, h6, h7⟩
  refine ⟨rfl, g, ⟨_, G2, h6, h2.kp h7 (fun q hq hg => h3 q hg hq), fun q hq hq2 => ?_, fun q hq => ?_, fun g' hg => ⟨fun hq => ?_, (h5 g' hg).2⟩⟩, h.row.kp h7 (fun g' hg hq => (h5 g' hg).1 hq), h.own, kp_in h.kp h7 (fun q hq => h4 q (.inl hq))⟩
  · rcases hq with hq | hq
    · exact h3 q hq hq2
    · have := h2.lt q hq2; omega
  · rcases hq with (hq | hq) | hq
    · exact h4 q (.inl hq)
    · exact Nat.le_trans h.kp.size hq.1
    · exact h4 q (.inr hq)
  · rcases hq with hq | hq
    · exact (h5 g' hg).1 hq
    · have := h.row.lt g' hg; omega
theorem two_startB (h : Two w0 w b1 n1 f1 ts1 b2 n2 f2 ts2 v l) (n : Nat) (wht : Int) (hn : n ≤ 1073741824) (hnow : n2 + 1073741824 ≤ 2305843009213693952) (hfr : f2 + 1 ≤ 4611686018427387904) (hf : ts2.length < 1000) :
    Calls Try.prog 14 #[.pointer (some ⟨b2, 0, none⟩), .int .i64 (n : Nat), .int .i64 wht] w fun e w' => e = .returned (.tuple #[.int .i64 (f2 : Nat), .nilIface]) ∧ ∃ g, Two w0 w' b1 n1 f1 ts1 b2 n2 (f2 + 1) (ts2 ++ [⟨f2, wht, n2 + n, g⟩]) v l := by
  obtain ⟨G1, G2, h1, h2, h3, h4, h5⟩ := h.wheels
  refine (g_start h2 n wht hn hnow hfr hf (by omega)).mono ?_
  rintro e w' ⟨rfl, g, h6, h7⟩
  refine ⟨rfl, g, ⟨G1, _, h1.kp h7 (fun q hq hg => h3 q hq hg), h6, fun q hq hq2 => ?_, fun q hq => ?_, fun g' hg => ⟨(h5 g' hg).1, fun hq => ?_⟩⟩, h.row.kp h7 (fun g' hg hq => (h5 g' hg).2 hq), h.own, kp_in h.kp h7 (fun q hq => h4 q (.inr hq))⟩
  · rcases hq2 with hq2 | hq2
    · exact h3 q hq hq2
    · have := h1.lt q hq; omega
  · rcases hq with hq | (hq | hq)
    · exact h4 q (.inl hq)
    · exact h4 q (.inr hq)
    · exact Nat.le_trans h.kp.size hq.1
  · rcases hq with hq | hq
    · exact (h5 g' hg).2 hq
    · have := h.row.lt g' hg; omega
/-- the first one's Tick -/
def TickA (w0 : World) (b1 f1 : Nat) (ts1 : List Tm) (e1 b2 n2 f2 : Nat) (ts2 : List Tm) (v : Value) (l : List Int) (e : Ending) (w' : World) : Prop :=
  ∃ u o ts', e = .returned u ∧ Lr w' u (idsOf o) ∧ DueBy ts1 e1 o ts' ∧ Two w0 w' b1 e1 f1 ts' b2 n2 f2 ts2 v l
theorem two_tickA (h : Two w0 w b1 n1 f1 ts1 b2 n2 f2 ts2 v l) (n : Nat) (hn : n ≤ 1048576) (hnow : n1 ≤ 1152921504606846976) (hlen : ts1.length ≤ 17592186044416) :
    Calls Try.prog 22 #[.pointer (some ⟨b1, 0, none⟩), .int .i64 (n : Nat)] w (TickA w0 b1 f1 ts1 (n1 + n) b2 n2 f2 ts2 v l) := by
  obtain ⟨G1, G2, h1, h2, h3, h4, h5⟩ := h.wheels
  refine (g_tick h1 (n : Nat) (by omega) (by omega) (by omega) hlen).mono ?_
  rw [ticksOf_nat hn]
  rintro e w' ⟨u, o, ts', rfl, h6, h7, h8, h9, h10⟩
  exact ⟨u, o, ts', rfl, h6.rd, h8, ⟨G1, G2, h9, h2.kp h10 (fun q hq hg => h3 q hg hq), h3, h4, h5⟩, h.row.kp h10 (fun g hg hq => (h5 g hg).1 hq), h.own, kp_in h.kp h10 (fun q hq => h4 q (.inl hq))⟩
def TickB (w0 : World) (b1 n1 f1 : Nat) (ts1 : List Tm) (b2 f2 : Nat) (ts2 : List Tm) (e2 : Nat) (v : Value) (l : List Int) (e : Ending) (w' : World) : Prop :=
  ∃ u o ts', e = .returned u ∧ Lr w' u (idsOf o) ∧ DueBy ts2 e2 o ts' ∧ Two w0 w' b1 n1 f1 ts1 b2 e2 f2 ts' v l
theorem two_tickB (h : Two w0 w b1 n1 f1 ts1 b2 n2 f2 ts2 v l) (n : Nat) (hn : n ≤ 1048576) (hnow : n2 ≤ 1152921504606846976) (hlen : ts2.length ≤ 17592186044416) :
    Calls Try.prog 22 #[.pointer (some ⟨b2, 0, none⟩), .int .i64 (n : Nat)] w (TickB w0 b1 n1 f1 ts1 b2 f2 ts2 (n2 + n) v l) := by
  obtain ⟨G1, G2, h1, h2, h3, h4, h5⟩ := h.wheels
  refine (g_tick h2 (n : Nat) (by omega) (by omega) (by omega) hlen).mono ?_
  rw [ticksOf_nat hn]
  rintro e w' ⟨u, o, ts', rfl, h6, h7, h8, h9, h10⟩
  exact ⟨u, o, ts', rfl, h6.rd, h8, ⟨G1, G2, h1.kp h10 (fun q hq hg => h3 q hq hg), h9, h3, h4, h5⟩, h.row.kp h10 (fun g hg hq => (h5 g hg).2 hq), h.own, kp_in h.kp h10 (fun q hq => h4 q (.inr hq))⟩
/-- the row has grown -/
theorem Two.grown {l' : List Int} (h : Two w0 w b1 n1 f1 ts1 b2 n2 f2 ts2 v l) (hr : Lw w' v' l') (hk : Kp (fun q => v.ownBlock = some q) w w') (hg : ∀ g, v'.ownBlock = some g → v.ownBlock = some g ∨ w.heap.size ≤ g) : Two w0 w' b1 n1 f1 ts1 b2 n2 f2 ts2 v' l' := by
  obtain ⟨G1, G2, h1, h2, h3, h4, h5⟩ := h.wheels
  refine ⟨⟨G1, G2, h1.kp hk (fun q hq e => (h5 q e).1 hq), h2.kp hk (fun q hq e => (h5 q e).2 hq), h3, h4, fun g e => ?_⟩, hr, fun g e => ?_, kp_in h.kp hk h.own⟩
  · rcases hg g e with e2 | e2
    · exact h5 g e2
    · exact ⟨fun hq => by have := h1.lt g hq; omega, fun hq => by have := h2.lt g hq; omega⟩
  · rcases hg g e with e2 | e2
    · exact h.own g e2
    · exact Nat.le_trans h.kp.size e2
theorem two_new {G : Nat → Prop} (h1 : WhG w G b1 1000 n1 f1 ts1) (hG : ∀ q, G q → w0.heap.size ≤ q) (hk : Kp (fun _ => False) w0 w) {e : Ending} (h2 : GNew 1000 w e w') :
    ∃ b2, e = .returned (.tuple #[.pointer (some ⟨b2, 0, none⟩), .nilIface]) ∧ Two w0 w' b1 n1 f1 ts1 b2 0 0 [] (.slice none 0 0) [] := by
  obtain ⟨b2, rfl, h3, h4⟩ := h2
  refine ⟨b2, rfl, ⟨G, _, h1.same h4, h3, fun q hq hq2 => ?_, fun q hq => ?_, (fun g hg => by cases hg)⟩, ownsW_nil _ _ _, (fun g hg => by cases hg), hk.trans' h4⟩
  · have := h1.lt q hq; omega
  · rcases hq with hq | hq
    · exact hG q hq
    · exact Nat.le_trans hk.size hq.1
end
end Go.Proofs.Ytmekhijmghddiaa
