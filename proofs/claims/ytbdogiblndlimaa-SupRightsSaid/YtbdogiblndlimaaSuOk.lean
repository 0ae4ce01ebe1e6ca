/- What holds of a supervisor between calls, and is kept by each. -/
import Derived.Test.YtbdogiblndlimaaSuPure
namespace Go.Proofs.Ytbdogiblndlimaa
set_option linter.unusedVariables false

/-- its numbers, children, notes, at a time -/
structure SuB (S : Su) (now : Nat) : Prop where
  sg : S.sg = 1 ∨ S.sg = 2 ∨ S.sg = 3
  len : S.cs.length ≤ 32
  m : S.m ≤ 1000
  tt1 : 1 ≤ S.tt
  tt : S.tt ≤ 10000
  kind : ∀ (i : Nat) (k : Kd), S.cs[i]? = some k → (k.r = 0 ∨ k.r = 1 ∨ k.r = 2) ∧ -1 ≤ k.t ∧ k.t ≤ 10000
  tsl : S.ts.length ≤ 1001
  tso : S.ts.Pairwise fun x y => x ≤ y
  tsn : ∀ x ∈ S.ts, x ≤ now
  si : S.si ≤ now
  to : S.to ≤ S.cs.length
  fr : S.fr ≤ 32
structure SuOk (S : Su) (now : Nat) : Prop where
  b : SuB S now
  st : S.st ≤ 3
  th : S.th ≤ 2
  tsm : S.st ≤ 1 ∨ S.th = 1 → S.ts.length ≤ S.m
  busy : S.st = 2 → S.hl < S.cs.length ∧ (S.th = 1 ∨ S.th = 2) ∧ (S.kd = false → 0 ≤ tAt S.cs S.hl)
  fin : S.th = 2 → S.fr = 0 ∧ S.to = S.cs.length
  none : S.st = 0 ∨ S.st = 3 → ∀ i, upAt S.cs i = false

section
variable {S : Su} {now now' c i : Nat} {k : Kd} {u : Bool} {p : Nat → Kd → Bool} {cs : List Kd}
theorem SuB.mono (h : SuB S now) (hn : now ≤ now') : SuB S now' :=
  ⟨h.sg, h.len, h.m, h.tt1, h.tt, h.kind, h.tsl, h.tso, fun x hx => Nat.le_trans (h.tsn x hx) hn, Nat.le_trans h.si hn, h.to, h.fr⟩
theorem SuOk.mono (h : SuOk S now) (hn : now ≤ now') : SuOk S now' := ⟨h.b.mono hn, h.st, h.th, h.tsm, h.busy, h.fin, h.none⟩
theorem kind_lift (h : ∀ (i : Nat) (k : Kd), cs[i]? = some k → (k.r = 0 ∨ k.r = 1 ∨ k.r = 2) ∧ -1 ≤ k.t ∧ k.t ≤ 10000) (i : Nat) (k : Kd) (hk : (lift p cs)[i]? = some k) : (k.r = 0 ∨ k.r = 1 ∨ k.r = 2) ∧ -1 ≤ k.t ∧ k.t ≤ 10000 := by
  rw [lift_get] at hk
  obtain ⟨k0, h0, rfl⟩ := Option.map_eq_some_iff.1 hk
  have := h i k0 h0
  split <;> exact this
theorem kind_setU (h : ∀ (i : Nat) (k : Kd), cs[i]? = some k → (k.r = 0 ∨ k.r = 1 ∨ k.r = 2) ∧ -1 ≤ k.t ∧ k.t ≤ 10000) (i : Nat) (k : Kd) (hk : (setU cs c u)[i]? = some k) : (k.r = 0 ∨ k.r = 1 ∨ k.r = 2) ∧ -1 ≤ k.t ∧ k.t ≤ 10000 := by
  rw [setU_get] at hk
  obtain ⟨k0, h0, rfl⟩ := Option.map_eq_some_iff.1 hk
  have := h i k0 h0
  split <;> exact this
theorem SuB.down (h : SuB S now) : SuB (downOf S c) now :=
  ⟨h.sg, by show (setU _ _ _).length ≤ 32; rw [setU_len]; exact h.len, h.m, h.tt1, h.tt, kind_setU h.kind, h.tsl, h.tso, h.tsn, h.si, by show S.to ≤ (setU _ _ _).length; rw [setU_len]; exact h.to, h.fr⟩
theorem SuB.ends (h : SuB S now) : SuB (endS S) now := ⟨h.sg, h.len, h.m, h.tt1, h.tt, h.kind, h.tsl, h.tso, h.tsn, h.si, Nat.le_refl _, by show 0 ≤ 32; omega⟩
theorem SuB.again (h : SuB S now) (hc : c < S.cs.length) : SuB (againS S c) now := by
  have := h.len
  refine ⟨h.sg, h.len, h.m, h.tt1, h.tt, h.kind, h.tsl, h.tso, h.tsn, h.si, ?_, ?_⟩
  · show (if S.sg = 1 then c + 1 else S.cs.length) ≤ S.cs.length
    split <;> omega
  · show (if S.sg = 1 ∨ S.sg = 3 then c else 0) ≤ 32
    split <;> omega
theorem lastUp_none {a : Nat} : ∀ {n : Nat}, lastUp cs a n = none → ∀ i, a ≤ i → i < n → upAt cs i = false
  | 0, _, i, _, h => by omega
  | n + 1, h, i, h1, h2 => by
    unfold lastUp at h
    split at h
    · omega
    · split at h
      · cases h
      · rename_i h3
        rcases Nat.eq_or_lt_of_le (Nat.le_of_lt_succ h2) with rfl | h4
        · simpa using h3
        · exact lastUp_none h i h1 h4
theorem turn_ok (h : SuB S now) (hs : S.st ≤ 3) (hth : S.th = 1 ∨ S.th = 2) (htm : S.th = 1 → S.ts.length ≤ S.m) (hfin : S.th = 2 → S.fr = 0 ∧ S.to = S.cs.length) : SuOk (turnS S now) now := by
  unfold turnS
  split
  · rename_i c hc
    obtain ⟨h1, h2, h3⟩ := lastUp_some hc
    have h4 : c < S.cs.length := by have := h.to; omega
    obtain ⟨k, hk⟩ : ∃ k, S.cs[c]? = some k := ⟨_, List.getElem?_eq_getElem h4⟩
    have hki := h.kind c k hk
    refine ⟨⟨h.sg, h.len, h.m, h.tt1, h.tt, h.kind, h.tsl, h.tso, h.tsn, Nat.le_refl _, h.to, h.fr⟩, by show 2 ≤ 3; omega, by show S.th ≤ 2; omega, fun e => htm ?_, fun _ => ⟨h4, hth, fun e => ?_⟩, hfin, fun e => absurd e (by show ¬ (2 = 0 ∨ 2 = 3); omega)⟩
    · rcases e with e | e
      · exact absurd e (by show ¬ (2 ≤ 1); omega)
      · exact e
    · have e2 : decide (tAt S.cs c = -1) = false := e
      have e3 : ¬ tAt S.cs c = -1 := by simpa using e2
      show 0 ≤ tAt S.cs c
      rw [tAt_of hk] at e3 ⊢
      omega
  · rename_i hno
    unfold thenS
    split
    · rename_i h1
      refine ⟨⟨h.sg, by show (lift _ _).length ≤ 32; rw [lift_len]; exact h.len, h.m, h.tt1, h.tt, kind_lift h.kind, h.tsl, h.tso, h.tsn, h.si, by show S.to ≤ (lift _ _).length; rw [lift_len]; exact h.to, h.fr⟩, by show 1 ≤ 3; omega, by show S.th ≤ 2; omega, fun _ => htm h1, (fun e => absurd e (by show ¬ (1 = 2); omega)), (fun e => absurd e (by show ¬ (S.th = 2); omega)), fun e => absurd e (by show ¬ (1 = 0 ∨ 1 = 3); omega)⟩
    · rename_i h1
      exact ⟨⟨h.sg, h.len, h.m, h.tt1, h.tt, h.kind, h.tsl, h.tso, h.tsn, h.si, h.to, h.fr⟩, by show 3 ≤ 3; omega, by show S.th ≤ 2; omega, (fun e => htm (e.resolve_left (by show ¬ (3 ≤ 1); omega))), (fun e => absurd e (by show ¬ (3 = 2); omega)), hfin, fun _ i => by
        obtain ⟨e1, e2⟩ := hfin (by omega)
        rcases Nat.lt_or_ge i S.cs.length with h5 | h5
        · exact lastUp_none hno i (by omega) (by omega)
        · exact upAt_out h5⟩
theorem note_len (h : S.ts.length ≤ S.m) : (noteTs S.m S.tt S.ts now).length ≤ S.m + 1 ∧ (noteB S.m S.tt S.ts now = false → (noteTs S.m S.tt S.ts now).length ≤ S.m) := by
  unfold noteTs noteB
  by_cases h1 : S.ts.length < S.m
  · rw [if_pos h1]
    simp
    omega
  · rw [if_neg h1]
    by_cases h2 : now - (S.ts ++ [now]).headD 0 < S.tt
    · rw [if_pos h2]
      refine ⟨by simp; omega, fun e => ?_⟩
      have e2 := of_decide_eq_false e
      omega
    · rw [if_neg h2]
      simp
      omega
theorem note_sorted (h : SuB S now) : (S.ts ++ [now]).Pairwise (fun x y => x ≤ y) := by
  rw [List.pairwise_append]
  exact ⟨h.tso, by simp, fun a ha b hb => by simp at hb; subst hb; exact h.tsn a ha⟩
theorem note_ok (h : SuB S now) : (noteTs S.m S.tt S.ts now).Pairwise (fun x y => x ≤ y) ∧ ∀ x ∈ noteTs S.m S.tt S.ts now, x ≤ now := by
  have h1 := note_sorted h
  have h2 : ∀ x ∈ S.ts ++ [now], x ≤ now := fun x hx => by
    rcases List.mem_append.1 hx with e | e
    · exact h.tsn x e
    · simp at e; omega
  have h3 : (S.ts ++ [now]).tail.Pairwise (fun x y => x ≤ y) := h1.sublist (List.tail_sublist _)
  have h4 : ∀ x ∈ (S.ts ++ [now]).tail, x ≤ now := fun x hx => h2 x (List.mem_of_mem_tail hx)
  unfold noteTs
  split
  · exact ⟨h1, h2⟩
  · split
    · exact ⟨h1, h2⟩
    · exact ⟨h3, h4⟩
theorem SuB.note (h : SuB S now) (hm : S.ts.length ≤ S.m) : SuB { S with ts := noteTs S.m S.tt S.ts now } now := by
  have h1 := note_ok h
  have h2 := note_len (now := now) hm
  have := h.m
  exact ⟨h.sg, h.len, h.m, h.tt1, h.tt, h.kind, by show (noteTs S.m S.tt S.ts now).length ≤ 1001; omega, h1.1, h1.2, h.si, h.to, h.fr⟩
theorem plan_ok (h : SuB S now) (hm : S.ts.length ≤ S.m) (hc : c < S.cs.length) (hs : S.st ≤ 3) : SuB (planS S c now) now ∧ (planS S c now).st = S.st ∧ ((planS S c now).th = 1 ∨ (planS S c now).th = 2) ∧ ((planS S c now).th = 1 → (planS S c now).ts.length ≤ (planS S c now).m) ∧ ((planS S c now).th = 2 → (planS S c now).fr = 0 ∧ (planS S c now).to = (planS S c now).cs.length) := by
  have h1 := h.note hm
  have h2 := note_len (now := now) hm
  have hl := fun {S : Su} (h : SuB S now) => (⟨h.sg, h.len, h.m, h.tt1, h.tt, h.kind, h.tsl, h.tso, h.tsn, h.si, h.to, h.fr⟩ : SuB { S with hl := c } now)
  unfold planS
  by_cases hb : noteB S.m S.tt S.ts now = true
  · simp only [hb, if_true]
    exact ⟨hl h1.ends, rfl, .inr rfl, (fun e => absurd e (by show ¬ (2 = 1); omega)), fun _ => ⟨rfl, rfl⟩⟩
  · have hb2 : noteB S.m S.tt S.ts now = false := by simpa using hb
    simp only [hb2]
    exact ⟨hl (h1.again (c := c) hc), rfl, .inl rfl, (fun _ => h2.2 hb2), fun e => absurd e (by show ¬ (1 = 2); omega)⟩
theorem SuOk.down (h : SuOk S now) (hc : c < S.cs.length) (normal : Bool) : SuOk (downS S c normal now) now := by
  have hd : SuB (downOf S c) now := h.b.down
  have hd2 : SuOk (downOf S c) now := by
    refine ⟨hd, h.st, h.th, h.tsm, fun e => ?_, fun e => ?_, fun e i => ?_⟩
    · obtain ⟨h1, h2, h3⟩ := h.busy e
      exact ⟨by show S.hl < (setU _ _ _).length; rw [setU_len]; exact h1, h2, fun e2 => by show 0 ≤ tAt (setU _ _ _) _; rw [setU_tAt]; exact h3 e2⟩
    · obtain ⟨h1, h2⟩ := h.fin e
      exact ⟨h1, by show S.to = (setU _ _ _).length; rw [setU_len]; exact h2⟩
    · have h1 := h.none e i
      show upAt (setU S.cs c false) i = false
      unfold upAt at h1 ⊢
      rw [setU_get]
      cases hk : S.cs[i]? with
      | none => rfl
      | some x =>
        rw [hk] at h1
        by_cases e2 : c = i
        · simp [e2]
        · simpa [e2] using h1
  unfold downS
  split
  · rename_i h1
    split
    · obtain ⟨p1, p2, p3, p4, p5⟩ := plan_ok (c := c) hd (h.tsm (.inl (by omega))) (by show c < (setU _ _ _).length; rw [setU_len]; exact hc) h.st
      exact turn_ok p1 (by rw [p2]; exact h.st) p3 p4 p5
    · exact hd2
  · split
    · rename_i h1
      exact turn_ok hd h.st (h.busy h1.1).2.1 (fun e => h.tsm (.inr e)) hd2.fin
    · exact hd2
theorem SuOk.tick (h : SuOk S now) : SuOk (tickS S now) now := by
  unfold tickS
  split
  · exact ⟨⟨h.b.sg, h.b.len, h.b.m, h.b.tt1, h.b.tt, h.b.kind, h.b.tsl, h.b.tso, h.b.tsn, h.b.si, h.b.to, h.b.fr⟩, h.st, h.th, h.tsm, (fun e => ⟨(h.busy e).1, (h.busy e).2.1, fun e2 => by cases e2⟩), h.fin, h.none⟩
  · exact h
theorem SuOk.stop (h : SuOk S now) : SuOk (stopS S now) now := by
  unfold stopS
  split
  · exact turn_ok h.b.ends h.st (.inr rfl) (fun e => absurd e (by show ¬ (2 = 1); omega)) (fun _ => ⟨rfl, rfl⟩)
  · split
    · rename_i h1 h2
      exact ⟨h.b.ends, h.st, by show 2 ≤ 2; omega, (fun e => absurd e (by show ¬ (S.st ≤ 1 ∨ 2 = 1); omega)), (fun e => ⟨(h.busy e).1, .inr rfl, (h.busy e).2.2⟩), (fun _ => ⟨rfl, rfl⟩), fun e => absurd e (by show ¬ (S.st = 0 ∨ S.st = 3); omega)⟩
    · exact h
theorem SuOk.begin (h : SuOk S now) : SuOk (beginS S) now := by
  unfold beginS
  split
  · rename_i h0
    exact ⟨⟨h.b.sg, by show (lift _ _).length ≤ 32; rw [lift_len]; exact h.b.len, h.b.m, h.b.tt1, h.b.tt, kind_lift h.b.kind, h.b.tsl, h.b.tso, h.b.tsn, h.b.si, by show S.to ≤ (lift _ _).length; rw [lift_len]; exact h.b.to, h.b.fr⟩, by show 1 ≤ 3; omega, h.th, (fun e => h.tsm (.inl (by omega))), (fun e => absurd e (by show ¬ (1 = 2); omega)), (fun e => ⟨(h.fin e).1, by show S.to = (lift _ _).length; rw [lift_len]; exact (h.fin e).2⟩), fun e => absurd e (by show ¬ (1 = 0 ∨ 1 = 3); omega)⟩
  · exact h
end
end Go.Proofs.Ytbdogiblndlimaa
