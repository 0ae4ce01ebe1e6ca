/- A wheel, whole; an expiry, as the timers see it. -/
import Derived.Test.YtmekhijmghddiaaWhTick1
namespace Go.Proofs.Ytmekhijmghddiaa
open Go.RowKit

/-- a wheel: where it lies, which timers it holds -/
structure Wh (w : World) (F : Nat → Prop) (b mb most now fresh : Nat) (ch : Nat → List Tm) (ts : List Tm) : Prop where
  chn : Chn w F b (whv most now fresh mb) ch
  mp : Mp w mb ts
  nF : ¬ F mb
  mem : ∀ t, ChMem ch t ↔ t ∈ ts
  inv : ChInv 1 now ch
  ids : ∀ t ∈ ts, t.id < fresh
  dueB : ∀ t ∈ ts, t.due ≤ 2305843009213693952
  nowB : now ≤ 2305843009213693952
  freshB : fresh ≤ 4611686018427387904

section
variable {F G : Nat → Prop} {w w' : World} {b mb most now fresh : Nat} {ch : Nat → List Tm} {ts ts0 o c : List Tm}
theorem wh_st1_le {now s due : Nat} (h : TmPl now s due) (hs : TmSt 1 now s due) (hlt : s < 320) : now ≤ due := by
  rcases Nat.lt_or_ge s 64 with h1 | h1
  · have h2 := @wh_pl_lev 0 now s due h1
    rw [Nat.mul_zero, Nat.zero_add] at h2
    exact (h2.1 h).2.2
  · exact Nat.le_of_lt (wh_st0_lt h (wh_st0 h hs hlt (by omega)) hlt)
theorem Wh.le (h : Wh w F b mb most now fresh ch ts) : ∀ t ∈ ts, now ≤ t.due := by
  intro t ht
  obtain ⟨s, hs, hin⟩ := (h.mem t).2 ht
  have := h.inv s hs t hin
  exact wh_st1_le this.1 this.2 hs
theorem id_inj (hnd : (ts.map Tm.id).Nodup) {a b : Tm} (ha : a ∈ ts) (hb : b ∈ ts) (e : a.id = b.id) : a = b := by
  induction ts with
  | nil => simp at ha
  | cons x l ih =>
    simp only [List.map_cons, List.nodup_cons, List.mem_map, not_exists, not_and] at hnd
    rcases List.mem_cons.1 ha with rfl | h1
    · rcases List.mem_cons.1 hb with rfl | h2
      · rfl
      · exact absurd e.symm (hnd.1 _ h2)
    · rcases List.mem_cons.1 hb with rfl | h2
      · exact absurd e (hnd.1 _ h1)
      · exact ih hnd.2 h1 h2
theorem nodup_map_of {l : List Tm} (hl : l.Nodup) (hi : ∀ a ∈ l, ∀ b ∈ l, a.id = b.id → a = b) : (l.map Tm.id).Nodup := by
  induction l with
  | nil => simp
  | cons x l ih =>
    rw [List.nodup_cons] at hl
    rw [List.map_cons, List.nodup_cons]
    refine ⟨fun hm => ?_, ih hl.2 (fun a ha b hb => hi a (by simp [ha]) b (by simp [hb]))⟩
    obtain ⟨y, hy, e⟩ := List.mem_map.1 hm
    exact hl.1 (by rw [← hi y (by simp [hy]) x (by simp) e]; exact hy)
theorem len_le : ∀ {l m : List Nat}, l.Nodup → (∀ x ∈ l, x ∈ m) → l.length ≤ m.length
  | [], _, _, _ => Nat.zero_le _
  | a :: l, m, hn, hs => by
    rw [List.nodup_cons] at hn
    have ha := hs a (by simp)
    have h1 := len_le (m := m.erase a) hn.2 (fun x hx => (List.mem_erase_of_ne (fun e => hn.1 (by rw [← e]; exact hx))).2 (hs x (by simp [hx])))
    rw [List.length_erase_of_mem ha] at h1
    have := List.length_pos_of_mem ha
    simp
    omega
theorem DueBy.length (h : DueBy ts0 now o ts) (hnd : (ts0.map Tm.id).Nodup) : o.length ≤ ts0.length := by
  have hn : o.Nodup := h.sorted.imp (fun {a b} hab e => by subst e; unfold TmLt at hab; omega)
  have h1 := nodup_map_of hn (fun a ha b hb e => id_inj hnd ((h.mem a).1 ha).1 ((h.mem b).1 hb).1 e)
  have h2 := len_le h1 (m := ts0.map Tm.id) (fun x hx => by
    obtain ⟨y, hy, rfl⟩ := List.mem_map.1 hx
    exact List.mem_map_of_mem ((h.mem y).1 hy).1)
  simpa using h2
theorem Wh.nodup (h : Wh w F b mb most now fresh ch ts) : (ts.map Tm.id).Nodup := by
  obtain ⟨D, _, _, hn, _⟩ := h.mp
  exact hn
/-- the chain of those whose time is now -/
theorem Wh.nows (h : Wh w F b mb most now fresh ch ts) : (∀ t, t ∈ ch (now % 64) ↔ t ∈ ts ∧ t.due = now) ∧ ((ch (now % 64)).map Tm.id).Nodup ∧ ts.filter (notIn (ch (now % 64))) = ts.filter fun t => decide (now < t.due) := by
  have hS : now % 64 < 320 := by omega
  have hc : ∀ t, t ∈ ch (now % 64) ↔ t ∈ ts ∧ t.due = now := by
    intro t
    constructor
    · intro ht
      refine ⟨(h.mem t).1 ⟨_, hS, ht⟩, ?_⟩
      have := h.inv _ hS t ht
      exact (now_slot this.1 this.2 hS).1 rfl
    · rintro ⟨ht, hd⟩
      obtain ⟨s, hs, hin⟩ := (h.mem t).2 ht
      have := h.inv s hs t hin
      rw [← (now_slot this.1 this.2 hs).2 hd]
      exact hin
  have hcn : ((ch (now % 64)).map Tm.id).Nodup := by
    have h1 := h.chn.nd _ hS
    have h2 : (ch (now % 64)).Nodup := by
      refine (List.pairwise_map.1 h1).imp (fun {a b} hab e => hab (by rw [e]))
    exact nodup_map_of h2 (fun a ha b hb e => id_inj h.nodup ((hc a).1 ha).1 ((hc b).1 hb).1 e)
  refine ⟨hc, hcn, ?_⟩
  apply List.filter_congr
  intro t ht
  rw [Bool.eq_iff_iff]
  unfold notIn
  have hle := h.le t ht
  constructor
  · intro h3
    simp at h3
    have : ¬ t.due = now := fun e => h3 t ((hc t).2 ⟨ht, e⟩) rfl
    simp
    omega
  · intro h3
    simp at h3
    simp
    intro x hx e
    have := (hc x).1 hx
    have := id_inj h.nodup this.1 ht e
    subst this
    omega
theorem Wh.sep (h : Wh w F b mb most now fresh ch ts) {v : Value} (ho : ∀ g, v.ownBlock = some g → ¬ F g ∧ g ≠ mb) : ExpSep F mb v w := ⟨h.chn.lt, h.nF, h.mp.lt, ho⟩
theorem Wh.kp (h : Wh w F b mb most now fresh ch ts) (hk : Kp G w w') (hd : ∀ q, F q ∨ q = mb → ¬ G q) : Wh w' F b mb most now fresh ch ts :=
  ⟨h.chn.kp hk (fun q hq => hd q (.inl hq)), h.mp.kp hk (hd mb (.inr rfl)), h.nF, h.mem, h.inv, h.ids, h.dueB, h.nowB, h.freshB⟩
theorem Wh.same (h : Wh w F b mb most now fresh ch ts) (hk : Kp (fun _ => False) w w') : Wh w' F b mb most now fresh ch ts := h.kp hk (fun _ _ e => e)
theorem Wh.drewN (h : Wh w F b mb most now fresh ch ts) (k : Nat) : Wh (w.drewN k) F b mb most now fresh ch ts := h.same (kp_drewN (Kp.refl _ w) k)

/-- an expiry, as the timers see it -/
theorem wh_expired {v0 : Value} {due : List Int} {e : Ending} (h : Wh w F b mb most now fresh ch ts) (hx : ExpTo F b mb (whv most now fresh mb) ch (now % 64) ts v0 due w e w') :
    ∃ v', e = .returned v' ∧ Wh w' F b mb most now fresh (upd ch (now % 64) []) (ts.filter fun t => decide (now < t.due)) ∧ ChInv 0 now (upd ch (now % 64) []) ∧
      Lw w' v' (due ++ idsOf ((ch (now % 64)).mergeSort fun a b => decide ((a.id : Int) ≤ (b.id : Int)))) ∧ (∀ g, v'.ownBlock = some g → v0.ownBlock = some g ∨ w.heap.size ≤ g) ∧ Kp (fun q => (F q ∨ q = mb) ∨ v0.ownBlock = some q) w w' := by
  obtain ⟨v', he, h1, h2, h3, h4, h5⟩ := hx
  obtain ⟨hc, hcn, hf⟩ := h.nows
  rw [hf] at h2
  have hS : now % 64 < 320 := by omega
  have hinv0 : ChInv 0 now (upd ch (now % 64) []) := by
    intro s hs t ht
    by_cases e : s = now % 64
    · subst e
      rw [upd_same] at ht
      simp at ht
    · rw [upd_other _ _ e] at ht
      have := h.inv s hs t ht
      exact ⟨this.1, wh_st0 this.1 this.2 hs e⟩
  refine ⟨v', he, ⟨h1, h2, h.nF, fun t => ?_, fun s hs t ht => ⟨(hinv0 s hs t ht).1, wh_st_mono (hinv0 s hs t ht).2 (by omega) (by omega)⟩, fun t ht => h.ids t (List.mem_filter.1 ht).1, fun t ht => h.dueB t (List.mem_filter.1 ht).1, h.nowB, h.freshB⟩, hinv0, by rw [idsOf_sort]; exact h3, h4, h5⟩
  rw [List.mem_filter, ← h.mem]
  constructor
  · rintro ⟨s, hs, ht⟩
    have h7 := hinv0 s hs t ht
    refine ⟨?_, by simpa using wh_st0_lt h7.1 h7.2 hs⟩
    by_cases e : s = now % 64
    · subst e
      rw [upd_same] at ht
      simp at ht
    · rw [upd_other _ _ e] at ht
      exact ⟨s, hs, ht⟩
  · rintro ⟨⟨s, hs, ht⟩, hlt⟩
    have hlt' : now < t.due := by simpa using hlt
    have hne : s ≠ now % 64 := fun e => by
      have := (hc t).1 (by rw [← e]; exact ht)
      omega
    exact ⟨s, hs, by rw [upd_other _ _ hne]; exact ht⟩
end
end Go.Proofs.Ytmekhijmghddiaa
