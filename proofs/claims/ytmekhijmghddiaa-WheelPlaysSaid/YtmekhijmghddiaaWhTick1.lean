/- A wheel's Tick, as plain data: what the search leads to, who is due. -/
import Derived.Test.YtmekhijmghddiaaWhExp
namespace Go.Proofs.Ytmekhijmghddiaa
open Go.RowKit

section
variable {ch : Nat → List Tm} {ts ts0 o : List Tm} {now k n : Nat}
theorem whLg_succ {k : Nat} (hk : k < 4) (x : Nat) : x / whLg (k + 1) = x / whLg k / 64 := by
  have hkk : k = 0 ∨ k = 1 ∨ k = 2 ∨ k = 3 := by omega
  rw [Nat.div_div_eq_div_mul]
  rcases hkk with rfl | rfl | rfl | rfl <;> rfl
/-- what is known of a timer in wheel j -/
theorem pl_at {j now i due : Nat} (hj : j < 5) (hi : i < 64) (hp : TmPl now (64 * j + i) due) (hs : TmSt 0 now (64 * j + i) due) :
    due / whLg j % 64 = i ∧ now / whLg j < due / whLg j ∧ due / whLg j ≤ now / whLg j + 64 ∧ (j < 4 → due / whLg j / 64 = now / whLg j / 64) := by
  rw [wh_pl_lev hi] at hp
  rw [wh_st_lev hi] at hs
  have hjj : j = 0 ∨ j = 1 ∨ j = 2 ∨ j = 3 ∨ j = 4 := by omega
  obtain ⟨a1, a2, a3⟩ := wh_quos now
  obtain ⟨b1, b2, b3⟩ := wh_quos due
  rcases hjj with rfl | rfl | rfl | rfl | rfl <;> simp only [TmPlJ, TmStJ, whLg] at hp hs ⊢
  · refine ⟨?_, ?_, ?_, fun _ => ?_⟩ <;> omega
  · refine ⟨?_, ?_, ?_, fun _ => ?_⟩ <;> omega
  · refine ⟨?_, ?_, ?_, fun _ => ?_⟩ <;> omega
  · refine ⟨?_, ?_, ?_, fun _ => ?_⟩ <;> omega
  · exact ⟨hp.1, hs.1 (by omega), hp.2.1, fun e => by omega⟩
theorem level_empty {A : Nat} (h : IsAhead ch k A 0) : ∀ i, i < 64 → ch (64 * k + i) = [] := by
  intro i hi
  rcases h with ⟨_, h⟩ | ⟨h, _⟩
  · by_cases e : A % 64 < i
    · have := h (i - A % 64) (by omega) (by omega)
      rwa [show (A + (i - A % 64)) % 64 = i by omega] at this
    · have := h (64 + i - A % 64) (by omega) (by omega)
      rwa [show (A + (64 + i - A % 64)) % 64 = i by omega] at this
  · omega
theorem all_empty (h : ∀ k, k < 5 → IsAhead ch k (now / whLg k) 0) (t : Tm) : ¬ ChMem ch t := by
  rintro ⟨s, hs, ht⟩
  obtain ⟨j, i, rfl, hi, hj⟩ := wh_lev hs
  rw [level_empty (h j (by omega)) i hi] at ht
  simp at ht
/-- the search found the next slot -/
theorem next_ok (hinv : ChInv 0 now ch) (hk : k < 5) (hn : 1 ≤ n) (hA : IsAhead ch k (now / whLg k) n) (hE : ∀ k', k' < k → IsAhead ch k' (now / whLg k') 0) :
    NextAt now k n ((now / whLg k + n) * whLg k) ∧ ∀ s, s < 320 → ∀ t ∈ ch s, 64 * k ≤ s ∧ (s < 64 * k + 64 → now / whLg k + n ≤ t.due / whLg k) := by
  obtain ⟨h1, h64, hne, hmin⟩ : 1 ≤ n ∧ n ≤ 64 ∧ ch (64 * k + (now / whLg k + n) % 64) ≠ [] ∧ ∀ m, 1 ≤ m → m < n → ch (64 * k + (now / whLg k + m) % 64) = [] := by
    rcases hA with ⟨h, _⟩ | h
    · omega
    · exact h
  constructor
  · refine ⟨hk, hn, h64, rfl, fun hk4 => ?_⟩
    obtain ⟨t, l, hl⟩ := List.exists_cons_of_ne_nil hne
    have hi : (now / whLg k + n) % 64 < 64 := by omega
    have hlt : 64 * k + (now / whLg k + n) % 64 < 320 := by omega
    have hp := hinv _ hlt t (by rw [hl]; simp)
    obtain ⟨g1, g2, g3, g4⟩ := pl_at hk hi hp.1 hp.2
    have := g4 hk4
    rw [whLg_succ hk4]
    omega
  · intro s hs t ht
    obtain ⟨j, i, rfl, hi, hj⟩ := wh_lev hs
    have hjk : k ≤ j := by
      rcases Nat.lt_or_ge j k with h | h
      · rw [level_empty (hE j h) i hi] at ht
        simp at ht
      · exact h
    refine ⟨by omega, fun hlt => ?_⟩
    obtain rfl : j = k := by omega
    have hp := hinv _ hs t ht
    obtain ⟨g1, g2, g3, g4⟩ := pl_at hk hi hp.1 hp.2
    rcases Nat.lt_or_ge (t.due / whLg j) (now / whLg j + n) with h | h
    · have := hmin (t.due / whLg j - now / whLg j) (by omega) (by omega)
      rw [show now / whLg j + (t.due / whLg j - now / whLg j) = t.due / whLg j by omega, g1] at this
      rw [this] at ht
      simp at ht
    · exact h
/-- behind the search: what holds at the next slot, and up to it -/
theorem next_all (hinv : ChInv 0 now ch) (hk : k < 5) (hn : 1 ≤ n) (hA : IsAhead ch k (now / whLg k) n) (hE : ∀ k', k' < k → IsAhead ch k' (now / whLg k') 0) :
    now < (now / whLg k + n) * whLg k ∧ ∀ s, s < 320 → ∀ t ∈ ch s, (now / whLg k + n) * whLg k ≤ t.due ∧ TmPl ((now / whLg k + n) * whLg k) s t.due ∧ TmFa ((now / whLg k + n) * whLg k) s t.due ∧
      ∀ e, now ≤ e → e < (now / whLg k + n) * whLg k → TmPl e s t.due ∧ TmSt 0 e s t.due := by
  obtain ⟨h1, h2⟩ := next_ok hinv hk hn hA hE
  refine ⟨nextAt_lt h1, fun s hs t ht => ?_⟩
  have hp := hinv s hs t ht
  exact wh_next_one h1 hp.1 hp.2 hs (h2 s hs t ht).1 (h2 s hs t ht).2

/-- ahead of another one in what a Tick tells -/
def TmLt (a c : Tm) : Prop := a.due < c.due ∨ (a.due = c.due ∧ a.id < c.id)
/-- o are those of ts0 that are due by now, in order; ts are the others -/
structure DueBy (ts0 : List Tm) (now : Nat) (o ts : List Tm) : Prop where
  sorted : o.Pairwise TmLt
  mem : ∀ t, t ∈ o ↔ t ∈ ts0 ∧ t.due ≤ now
  rest : ts = ts0.filter fun t => decide (now < t.due)
def idsOf (l : List Tm) : List Int := l.map fun t => (t.id : Int)

theorem DueBy.skip (h : DueBy ts0 now o ts) {e : Nat} (h1 : now ≤ e) (hn : ∀ t ∈ ts, e < t.due) : DueBy ts0 e o ts := by
  have key : ∀ t ∈ ts0, now < t.due → e < t.due := fun t ht hd => hn t (by rw [h.rest]; exact List.mem_filter.2 ⟨ht, by simpa using hd⟩)
  refine ⟨h.sorted, fun t => ?_, ?_⟩
  · rw [h.mem]
    constructor
    · rintro ⟨a, c⟩
      exact ⟨a, by omega⟩
    · rintro ⟨a, c⟩
      refine ⟨a, ?_⟩
      rcases Nat.lt_or_ge now t.due with h3 | h3
      · have := key t a h3; omega
      · exact h3
  · rw [h.rest]
    apply List.filter_congr
    intro t ht
    rw [decide_eq_decide]
    exact ⟨key t ht, fun h3 => by omega⟩
/-- those of one time more, sorted by their ids -/
theorem DueBy.more {now nxt : Nat} (h : DueBy ts0 now o ts) (h1 : now < nxt) (hn : ∀ t ∈ ts, nxt ≤ t.due) (c : List Tm) (hc : ∀ t, t ∈ c ↔ t ∈ ts ∧ t.due = nxt) (hcn : (c.map Tm.id).Nodup) :
    DueBy ts0 nxt (o ++ c.mergeSort fun a b => decide ((a.id : Int) ≤ (b.id : Int))) (ts.filter fun t => decide (nxt < t.due)) := by
  have hcm : ∀ t, t ∈ (c.mergeSort fun a b => decide ((a.id : Int) ≤ (b.id : Int))) ↔ t ∈ c := fun t => (List.mergeSort_perm c _).mem_iff
  have key : ∀ t ∈ ts0, now < t.due → nxt ≤ t.due := fun t ht hd => hn t (by rw [h.rest]; exact List.mem_filter.2 ⟨ht, by simpa using hd⟩)
  have hs : (c.mergeSort fun a b => decide ((a.id : Int) ≤ (b.id : Int))).Pairwise fun a b => decide ((a.id : Int) ≤ (b.id : Int)) = true :=
    List.pairwise_mergeSort (fun a b c h1 h2 => by simp at *; omega) (fun a b => by simp; omega) c
  have hsn : ((c.mergeSort fun a b => decide ((a.id : Int) ≤ (b.id : Int))).map Tm.id).Nodup := ((List.mergeSort_perm c _).map Tm.id).nodup_iff.2 hcn
  refine ⟨?_, fun t => ?_, ?_⟩
  · rw [List.pairwise_append]
    refine ⟨h.sorted, ?_, fun a ha b hb => ?_⟩
    · have hb : ∀ t ∈ (c.mergeSort fun a b => decide ((a.id : Int) ≤ (b.id : Int))), t.due = nxt := fun t ht => ((hc t).1 ((hcm t).1 ht)).2
      revert hs hsn hb
      generalize (c.mergeSort fun a b => decide ((a.id : Int) ≤ (b.id : Int))) = l
      intro hs hsn hb
      induction l with
      | nil => exact List.Pairwise.nil
      | cons a l ih =>
        rw [List.pairwise_cons] at hs ⊢
        simp only [List.map_cons, List.nodup_cons] at hsn
        refine ⟨fun b hb' => .inr ⟨by rw [hb a (by simp), hb b (by simp [hb'])], ?_⟩, ih hs.2 hsn.2 (fun t ht => hb t (by simp [ht]))⟩
        have h3 := hs.1 b hb'
        have h4 : a.id ≠ b.id := fun e => hsn.1 (by rw [e]; exact List.mem_map_of_mem hb')
        simp at h3
        omega
    · have h3 := ((h.mem a).1 ha).2
      have h4 := ((hc b).1 ((hcm b).1 hb)).2
      exact .inl (by omega)
  · rw [List.mem_append, hcm, hc, h.mem, h.rest, List.mem_filter]
    constructor
    · rintro (⟨a, b⟩ | ⟨⟨a, b⟩, d⟩)
      · exact ⟨a, by omega⟩
      · exact ⟨a, by omega⟩
    · rintro ⟨a, b⟩
      rcases Nat.lt_or_ge now t.due with h3 | h3
      · have := key t a h3
        exact .inr ⟨⟨a, by simpa using h3⟩, by omega⟩
      · exact .inl ⟨a, h3⟩
  · rw [h.rest, List.filter_filter]
    apply List.filter_congr
    intro t ht
    rw [Bool.eq_iff_iff]
    simp
    intro h3
    omega
theorem idsOf_sort (c : List Tm) : idsOf (c.mergeSort fun a b => decide ((a.id : Int) ≤ (b.id : Int))) = (c.map (fun t => (t.id : Int))).mergeSort fun x y => decide (x ≤ y) := by
  unfold idsOf
  rw [List.map_mergeSort]
  intro a _ b _
  rfl
/-- at first: those whose time is now -/
theorem DueBy.start (hn : ∀ t ∈ ts0, now ≤ t.due) (c : List Tm) (hc : ∀ t, t ∈ c ↔ t ∈ ts0 ∧ t.due = now) (hcn : (c.map Tm.id).Nodup) :
    DueBy ts0 now (c.mergeSort fun a b => decide ((a.id : Int) ≤ (b.id : Int))) (ts0.filter fun t => decide (now < t.due)) := by
  have hcm : ∀ t, t ∈ (c.mergeSort fun a b => decide ((a.id : Int) ≤ (b.id : Int))) ↔ t ∈ c := fun t => (List.mergeSort_perm c _).mem_iff
  have hs : (c.mergeSort fun a b => decide ((a.id : Int) ≤ (b.id : Int))).Pairwise fun a b => decide ((a.id : Int) ≤ (b.id : Int)) = true :=
    List.pairwise_mergeSort (fun a b c h1 h2 => by simp at *; omega) (fun a b => by simp; omega) c
  have hsn : ((c.mergeSort fun a b => decide ((a.id : Int) ≤ (b.id : Int))).map Tm.id).Nodup := ((List.mergeSort_perm c _).map Tm.id).nodup_iff.2 hcn
  refine ⟨?_, fun t => ?_, rfl⟩
  · have hb : ∀ t ∈ (c.mergeSort fun a b => decide ((a.id : Int) ≤ (b.id : Int))), t.due = now := fun t ht => ((hc t).1 ((hcm t).1 ht)).2
    revert hs hsn hb
    generalize (c.mergeSort fun a b => decide ((a.id : Int) ≤ (b.id : Int))) = l
    intro hs hsn hb
    induction l with
    | nil => exact List.Pairwise.nil
    | cons a l ih =>
      rw [List.pairwise_cons] at hs ⊢
      simp only [List.map_cons, List.nodup_cons] at hsn
      refine ⟨fun b hb' => .inr ⟨by rw [hb a (by simp), hb b (by simp [hb'])], ?_⟩, ih hs.2 hsn.2 (fun t ht => hb t (by simp [ht]))⟩
      have h3 := hs.1 b hb'
      have h4 : a.id ≠ b.id := fun e => hsn.1 (by rw [e]; exact List.mem_map_of_mem hb')
      simp at h3
      omega
  · rw [hcm, hc]
    constructor
    · rintro ⟨a, b⟩
      exact ⟨a, by omega⟩
    · rintro ⟨a, b⟩
      have := hn t a
      exact ⟨a, by omega⟩
end
end Go.Proofs.Ytmekhijmghddiaa
