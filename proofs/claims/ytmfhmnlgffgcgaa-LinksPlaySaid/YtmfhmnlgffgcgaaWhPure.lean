/- Wheels of slots: where a timer may stand, and what a search and a fall make of that; plain numbers. -/
namespace Go.Proofs.Ytmfhmnlgffgcgaa
/-- where a timer may stand: in wheel j, slot i -/
def TmPlJ (j now i due : Nat) : Prop :=
  match j with
  | 0 => due % 64 = i ∧ due / 64 = now / 64 ∧ now ≤ due
  | 1 => due / 64 % 64 = i ∧ due / 4096 = now / 4096 ∧ now / 64 ≤ due / 64
  | 2 => due / 4096 % 64 = i ∧ due / 262144 = now / 262144 ∧ now / 4096 ≤ due / 4096
  | 3 => due / 262144 % 64 = i ∧ due / 16777216 = now / 16777216 ∧ now / 262144 ≤ due / 262144
  | 4 => due / 16777216 % 64 = i ∧ due / 16777216 ≤ now / 16777216 + 64 ∧ now / 16777216 ≤ due / 16777216
  | _ => False
/-- .. from level k on beyond the slot of now -/
def TmStJ (k j now due : Nat) : Prop :=
  match j with
  | 0 => k ≤ 0 → now < due
  | 1 => k ≤ 1 → now / 64 < due / 64
  | 2 => k ≤ 2 → now / 4096 < due / 4096
  | 3 => k ≤ 3 → now / 262144 < due / 262144
  | _ => (k ≤ 4 → now / 16777216 < due / 16777216) ∧ (k = 5 → due / 16777216 < now / 16777216 + 64)
/-- ahead of a fall -/
def TmFaJ (j now due : Nat) : Prop :=
  match j with
  | 0 => True
  | 1 => now % 64 ≠ 0 → now / 64 < due / 64
  | 2 => now % 4096 ≠ 0 → now / 4096 < due / 4096
  | 3 => now % 262144 ≠ 0 → now / 262144 < due / 262144
  | _ => (now % 16777216 ≠ 0 → now / 16777216 < due / 16777216) ∧ (now % 16777216 = 0 → due / 16777216 < now / 16777216 + 64)
def TmPl (now s due : Nat) : Prop := TmPlJ (s / 64) now (s % 64) due
def TmSt (k now s due : Nat) : Prop := TmStJ k (s / 64) now due
def TmFa (now s due : Nat) : Prop := TmFaJ (s / 64) now due
def slotOf (now due : Nat) : Nat :=
  if due / 64 = now / 64 then due % 64 else if due / 4096 = now / 4096 then 64 + due / 64 % 64 else if due / 262144 = now / 262144 then 128 + due / 4096 % 64
  else if due / 16777216 = now / 16777216 then 192 + due / 262144 % 64 else 256 + due / 16777216 % 64

theorem wh_quos (n : Nat) : n / 4096 = n / 64 / 64 ∧ n / 262144 = n / 64 / 64 / 64 ∧ n / 16777216 = n / 64 / 64 / 64 / 64 := by
  refine ⟨?_, ?_, ?_⟩ <;> simp only [Nat.div_div_eq_div_mul]
theorem wh_lev {s : Nat} (h : s < 320) : ∃ j i, s = 64 * j + i ∧ i < 64 ∧ (j = 0 ∨ j = 1 ∨ j = 2 ∨ j = 3 ∨ j = 4) := ⟨s / 64, s % 64, by omega, by omega, by omega⟩
theorem wh_pl_lev {j now i due : Nat} (h : i < 64) : TmPl now (64 * j + i) due ↔ TmPlJ j now i due := by
  unfold TmPl
  rw [show (64 * j + i) / 64 = j by omega, show (64 * j + i) % 64 = i by omega]
theorem wh_st_lev {k j now i due : Nat} (h : i < 64) : TmSt k now (64 * j + i) due ↔ TmStJ k j now due := by
  unfold TmSt
  rw [show (64 * j + i) / 64 = j by omega]
theorem wh_fa_lev {j now i due : Nat} (h : i < 64) : TmFa now (64 * j + i) due ↔ TmFaJ j now due := by
  unfold TmFa
  rw [show (64 * j + i) / 64 = j by omega]
theorem slotOf_lt (now due : Nat) : slotOf now due < 320 := by unfold slotOf; split <;> (try split) <;> (try split) <;> (try split) <;> omega
theorem slotOf_pl {now due : Nat} (h1 : now ≤ due) (h2 : due ≤ now + 1073741824) : TmPl now (slotOf now due) due ∧ TmSt 1 now (slotOf now due) due := by
  obtain ⟨a1, a2, a3⟩ := wh_quos now
  obtain ⟨b1, b2, b3⟩ := wh_quos due
  unfold slotOf
  split
  · have h4 := @wh_pl_lev 0 now (due % 64) due (by omega)
    have h3 := @wh_st_lev 1 0 now (due % 64) due (by omega)
    simp only [Nat.mul_zero, Nat.zero_add] at h4 h3
    rw [h4, h3]
    exact ⟨⟨by omega, by omega, by omega⟩, fun _ => by omega⟩
  · split
    · rw [show (64 : Nat) + due / 64 % 64 = 64 * 1 + due / 64 % 64 from rfl, @wh_pl_lev 1 now _ due (by omega), @wh_st_lev 1 1 now _ due (by omega)]
      exact ⟨⟨by omega, by omega, by omega⟩, fun _ => by omega⟩
    · split
      · rw [show (128 : Nat) + due / 4096 % 64 = 64 * 2 + due / 4096 % 64 from rfl, @wh_pl_lev 2 now _ due (by omega), @wh_st_lev 1 2 now _ due (by omega)]
        exact ⟨⟨by omega, by omega, by omega⟩, fun _ => by omega⟩
      · split
        · rw [show (192 : Nat) + due / 262144 % 64 = 64 * 3 + due / 262144 % 64 from rfl, @wh_pl_lev 3 now _ due (by omega), @wh_st_lev 1 3 now _ due (by omega)]
          exact ⟨⟨by omega, by omega, by omega⟩, fun _ => by omega⟩
        · rw [show (256 : Nat) + due / 16777216 % 64 = 64 * 4 + due / 16777216 % 64 from rfl, @wh_pl_lev 4 now _ due (by omega), @wh_st_lev 1 4 now _ due (by omega)]
          exact ⟨⟨by omega, by omega, by omega⟩, fun _ => by omega, fun e => by omega⟩
theorem slotOf_of {now s due : Nat} (h : TmPl now s due) (hs : TmSt 1 now s due) (hlt : s < 320) : s = slotOf now due := by
  obtain ⟨a1, a2, a3⟩ := wh_quos now
  obtain ⟨b1, b2, b3⟩ := wh_quos due
  obtain ⟨j, i, rfl, hi, hj⟩ := wh_lev hlt
  rw [wh_pl_lev hi] at h
  rw [wh_st_lev hi] at hs
  unfold slotOf
  rcases hj with rfl | rfl | rfl | rfl | rfl <;> simp only [TmPlJ, TmStJ] at h hs
  · rw [if_pos (by omega)]; omega
  · rw [if_neg (by omega), if_pos (by omega)]; omega
  · rw [if_neg (by omega), if_neg (by omega), if_pos (by omega)]; omega
  · rw [if_neg (by omega), if_neg (by omega), if_neg (by omega), if_pos (by omega)]; omega
  · rw [if_neg (by omega), if_neg (by omega), if_neg (by omega), if_neg (by omega)]; omega
/-- those whose time is now stand in the first wheel -/
theorem now_slot {now s due : Nat} (h : TmPl now s due) (hs : TmSt 1 now s due) (hlt : s < 320) : s = now % 64 ↔ due = now := by
  obtain ⟨a1, a2, a3⟩ := wh_quos now
  obtain ⟨b1, b2, b3⟩ := wh_quos due
  obtain ⟨j, i, rfl, hi, hj⟩ := wh_lev hlt
  rw [wh_pl_lev hi] at h
  rw [wh_st_lev hi] at hs
  rcases hj with rfl | rfl | rfl | rfl | rfl <;> simp only [TmPlJ, TmStJ] at h hs <;> constructor <;> intro e <;> omega
theorem wh_st0 {now s due : Nat} (h : TmPl now s due) (hs : TmSt 1 now s due) (hlt : s < 320) (hn : s ≠ now % 64) : TmSt 0 now s due := by
  have hne : due ≠ now := fun e => hn ((now_slot h hs hlt).2 e)
  obtain ⟨j, i, rfl, hi, hj⟩ := wh_lev hlt
  rw [wh_pl_lev hi] at h
  rw [wh_st_lev hi] at hs ⊢
  rcases hj with rfl | rfl | rfl | rfl | rfl <;> simp only [TmPlJ, TmStJ] at * <;> omega
theorem wh_st_mono {k k' now s due : Nat} (hs : TmSt k now s due) (hk : k ≤ k') (hk' : k' ≤ 4) : TmSt k' now s due := by
  unfold TmSt at *
  revert hs
  unfold TmStJ
  split <;> omega
theorem wh_due_ge {now s due : Nat} (h : TmPl now s due) (hlt : s < 320) : now ≤ due ∨ now / 16777216 ≤ due / 16777216 := by
  obtain ⟨a1, a2, a3⟩ := wh_quos now
  obtain ⟨b1, b2, b3⟩ := wh_quos due
  obtain ⟨j, i, rfl, hi, hj⟩ := wh_lev hlt
  rw [wh_pl_lev hi] at h
  rcases hj with rfl | rfl | rfl | rfl | rfl <;> simp only [TmPlJ] at h <;> omega
theorem wh_st0_lt {now s due : Nat} (h : TmPl now s due) (hs : TmSt 0 now s due) (hlt : s < 320) : now < due := by
  obtain ⟨a1, a2, a3⟩ := wh_quos now
  obtain ⟨b1, b2, b3⟩ := wh_quos due
  obtain ⟨j, i, rfl, hi, hj⟩ := wh_lev hlt
  rw [wh_pl_lev hi] at h
  rw [wh_st_lev hi] at hs
  rcases hj with rfl | rfl | rfl | rfl | rfl <;> simp only [TmPlJ, TmStJ] at h hs <;> omega

/-- the length of a slot of wheel j -/
def whLg (j : Nat) : Nat := match j with | 0 => 1 | 1 => 64 | 2 => 4096 | 3 => 262144 | _ => 16777216

/-- what the search for the next slot found: n slots on in wheel j -/
structure NextAt (now j n nxt : Nat) : Prop where
  j5 : j < 5
  n1 : 1 ≤ n
  n64 : n ≤ 64
  eq : nxt = (now / whLg j + n) * whLg j
  turn : j < 4 → (now / whLg j + n) / 64 = now / whLg (j + 1)

theorem nextAt_lt {now j n nxt : Nat} (h : NextAt now j n nxt) : now < nxt := by
  obtain ⟨h1, h2, h3, h4, h5⟩ := h
  have hj : j = 0 ∨ j = 1 ∨ j = 2 ∨ j = 3 ∨ j = 4 := by omega
  clear h5
  rcases hj with rfl | rfl | rfl | rfl | rfl <;> simp only [whLg] at * <;> omega
/-- nxt, digit by digit -/
theorem nextAt_quos {now j n nxt : Nat} (h : NextAt now j n nxt) :
    (j = 0 ∧ nxt = now + n ∧ nxt / 64 = now / 64) ∨ (j = 1 ∧ nxt % 64 = 0 ∧ nxt / 64 = now / 64 + n ∧ nxt / 4096 = now / 4096) ∨ (j = 2 ∧ nxt % 4096 = 0 ∧ nxt / 4096 = now / 4096 + n ∧ nxt / 262144 = now / 262144) ∨
    (j = 3 ∧ nxt % 262144 = 0 ∧ nxt / 262144 = now / 262144 + n ∧ nxt / 16777216 = now / 16777216) ∨ (j = 4 ∧ nxt % 16777216 = 0 ∧ nxt / 16777216 = now / 16777216 + n) := by
  obtain ⟨h1, h2, h3, h4, h5⟩ := h
  obtain ⟨a1, a2, a3⟩ := wh_quos now
  obtain ⟨c1, c2, c3⟩ := wh_quos nxt
  have hj : j = 0 ∨ j = 1 ∨ j = 2 ∨ j = 3 ∨ j = 4 := by omega
  rcases hj with rfl | rfl | rfl | rfl | rfl <;> simp only [whLg] at h4 h5
  · have := h5 (by omega)
    exact .inl ⟨rfl, by omega, by omega⟩
  · have := h5 (by omega)
    exact .inr (.inl ⟨rfl, by omega, by omega, by omega⟩)
  · have := h5 (by omega)
    exact .inr (.inr (.inl ⟨rfl, by omega, by omega, by omega⟩))
  · have := h5 (by omega)
    exact .inr (.inr (.inr (.inl ⟨rfl, by omega, by omega, by omega⟩)))
  · exact .inr (.inr (.inr (.inr ⟨rfl, by omega, by omega⟩)))

set_option maxHeartbeats 2000000 in
/-- a timer, as the search sees it -/
theorem wh_next_one {now j n nxt s due : Nat} (h : NextAt now j n nxt) (hp : TmPl now s due) (hs : TmSt 0 now s due) (hlt : s < 320) (hlev : 64 * j ≤ s) (hfirst : s < 64 * j + 64 → now / whLg j + n ≤ due / whLg j) :
    nxt ≤ due ∧ TmPl nxt s due ∧ TmFa nxt s due ∧ ∀ e, now ≤ e → e < nxt → TmPl e s due ∧ TmSt 0 e s due := by
  have hq := nextAt_quos h
  have h1 := h.n1
  obtain ⟨a1, a2, a3⟩ := wh_quos now
  obtain ⟨b1, b2, b3⟩ := wh_quos due
  obtain ⟨c1, c2, c3⟩ := wh_quos nxt
  obtain ⟨j', i, rfl, hi, hj⟩ := wh_lev hlt
  rw [wh_pl_lev hi] at hp
  rw [wh_st_lev hi] at hs
  have hle : nxt ≤ due := by
    rcases hj with rfl | rfl | rfl | rfl | rfl <;> simp only [TmPlJ, TmStJ] at hp hs <;> rcases hq with ⟨rfl, hq⟩ | ⟨rfl, hq⟩ | ⟨rfl, hq⟩ | ⟨rfl, hq⟩ | ⟨rfl, hq⟩ <;> simp only [whLg] at hfirst <;> omega
  refine ⟨hle, ?_, ?_, fun e he1 he2 => ?_⟩
  · rw [wh_pl_lev hi]
    rcases hj with rfl | rfl | rfl | rfl | rfl <;> simp only [TmPlJ, TmStJ] at hp hs ⊢ <;> rcases hq with ⟨rfl, hq⟩ | ⟨rfl, hq⟩ | ⟨rfl, hq⟩ | ⟨rfl, hq⟩ | ⟨rfl, hq⟩ <;> simp only [whLg] at hfirst <;> omega
  · rw [wh_fa_lev hi]
    rcases hj with rfl | rfl | rfl | rfl | rfl <;> simp only [TmPlJ, TmStJ, TmFaJ] at hp hs ⊢ <;> rcases hq with ⟨rfl, hq⟩ | ⟨rfl, hq⟩ | ⟨rfl, hq⟩ | ⟨rfl, hq⟩ | ⟨rfl, hq⟩ <;> simp only [whLg] at hfirst <;>
      first | trivial | (intro _; omega) | (refine ⟨fun _ => ?_, fun _ => ?_⟩ <;> omega)
  · obtain ⟨d1, d2, d3⟩ := wh_quos e
    rw [wh_pl_lev hi, wh_st_lev hi]
    rcases hj with rfl | rfl | rfl | rfl | rfl <;> simp only [TmPlJ, TmStJ] at hp hs ⊢ <;> rcases hq with ⟨rfl, hq⟩ | ⟨rfl, hq⟩ | ⟨rfl, hq⟩ | ⟨rfl, hq⟩ | ⟨rfl, hq⟩ <;> simp only [whLg] at hfirst <;>
      (refine ⟨⟨by omega, by omega, by omega⟩, ?_⟩; first | (intro _; omega) | (refine ⟨fun _ => ?_, fun _ => ?_⟩ <;> omega))

set_option maxHeartbeats 1000000 in
/-- a step of a fall: those that stay -/
theorem fall_stay {k now s due : Nat} (hk : 1 ≤ k) (hk4 : k ≤ 4) (hp : TmPl now s due) (hs : TmSt (k + 1) now s due) (hlt : s < 320) (hne : s ≠ 64 * k + now / whLg k % 64) : TmSt k now s due := by
  obtain ⟨j, i, rfl, hi, hj⟩ := wh_lev hlt
  rw [wh_pl_lev hi] at hp
  rw [wh_st_lev hi] at hs ⊢
  have hkk : k = 1 ∨ k = 2 ∨ k = 3 ∨ k = 4 := by omega
  rcases hkk with rfl | rfl | rfl | rfl <;> rcases hj with rfl | rfl | rfl | rfl | rfl <;> simp only [TmPlJ, TmStJ, whLg] at hp hs hne ⊢ <;>
    first | (intro _; omega) | (refine ⟨fun _ => ?_, fun _ => ?_⟩ <;> omega)
set_option maxHeartbeats 1000000 in
/-- .. and those that go to the next lesser wheel -/
theorem fall_go {k now due : Nat} (hk : 1 ≤ k) (hk4 : k ≤ 4) (hm : now % whLg k = 0) (hp : TmPl now (64 * k + now / whLg k % 64) due) (hs : TmSt (k + 1) now (64 * k + now / whLg k % 64) due) :
    TmPl now (64 * (k - 1) + due / whLg (k - 1) % 64) due ∧ TmSt k now (64 * (k - 1) + due / whLg (k - 1) % 64) due := by
  obtain ⟨a1, a2, a3⟩ := wh_quos now
  obtain ⟨b1, b2, b3⟩ := wh_quos due
  have hi : now / whLg k % 64 < 64 := by omega
  have hi' : due / whLg (k - 1) % 64 < 64 := by omega
  rw [wh_pl_lev hi] at hp
  rw [wh_st_lev hi] at hs
  rw [wh_pl_lev hi', wh_st_lev hi']
  have hkk : k = 1 ∨ k = 2 ∨ k = 3 ∨ k = 4 := by omega
  rcases hkk with rfl | rfl | rfl | rfl <;> simp only [TmPlJ, TmStJ, whLg, Nat.reduceSub] at hp hs hi hi' hm ⊢ <;> (try simp only [a1, a2, a3, b1, b2, b3] at *) <;> (try have h5 := hs.2 (by trivial)) <;> (refine ⟨⟨?_, ?_, ?_⟩, fun _ => ?_⟩ <;> omega)
set_option maxHeartbeats 1000000 in
/-- where a fall begins -/
theorem wh_fa_st {now s due : Nat} (h : TmFa now s due) (hlt : s < 320) :
    (now % 16777216 = 0 → TmSt 5 now s due) ∧ (now % 16777216 ≠ 0 → now % 262144 = 0 → TmSt 4 now s due) ∧ (now % 262144 ≠ 0 → now % 4096 = 0 → TmSt 3 now s due) ∧
    (now % 4096 ≠ 0 → now % 64 = 0 → TmSt 2 now s due) ∧ (now % 64 ≠ 0 → TmSt 1 now s due) := by
  obtain ⟨j, i, rfl, hi, hj⟩ := wh_lev hlt
  rw [wh_fa_lev hi] at h
  simp only [wh_st_lev hi]
  rcases hj with rfl | rfl | rfl | rfl | rfl <;> simp only [TmFaJ, TmStJ] at h ⊢ <;> refine ⟨?_, ?_, ?_, ?_, ?_⟩ <;> intro e <;> (try intro e2) <;>
    first | omega | (intro _; omega) | (refine ⟨fun _ => ?_, fun _ => ?_⟩ <;> omega)
end Go.Proofs.Ytmfhmnlgffgcgaa
