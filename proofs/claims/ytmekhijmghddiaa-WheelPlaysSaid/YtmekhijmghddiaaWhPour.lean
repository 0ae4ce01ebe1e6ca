/- A wheel's slots: where a timer stands; a slot's timers go to the next lesser wheel. -/
import Derived.Test.YtmekhijmghddiaaWhRead
namespace Go.Proofs.Ytmekhijmghddiaa
open Go.RowKit

section
variable {F G : Nat → Prop} {w w1 w' : World} {b : Nat} {hv : List Value} {ch : Nat → List Tm}
def SlotIs (b s : Nat) (w : World) (e : Ending) (w' : World) : Prop := e = .returned (.pointer (some ⟨b, 4 + s, none⟩)) ∧ ∃ m, w' = w.drewN m

set_option maxHeartbeats 4000000 in
theorem slot_q (h : Chn w F b hv ch) {now due : Nat} (hnow : hv[1]? = some (.int .i64 (now : Nat))) (hnow2 : now ≤ 2305843009213693952) (hdue : due ≤ 2305843009213693952) :
    Calls Try.prog 33 #[.pointer (some ⟨b, 0, none⟩), .int .i64 (due : Nat)] w (SlotIs b (slotOf now due) w) := by
  have c1 := h.head hnow
  have fb := h.fz
  have HA := Lib.hid (fun (w : World) (o L : Nat) (hL : 0 < L) (hL2 : L ≤ 16777216) => at_q w b o due L hL hL2 (by omega))
  have hn2 : (now : Int) ≤ 2305843009213693952 := by omega
  have hd2 : (due : Int) ≤ 2305843009213693952 := by omega
  clear h hnow
  obtain ⟨A0, hA0⟩ : ∃ Q, due / 64 = Q := ⟨_, rfl⟩
  obtain ⟨N0, hN0⟩ : ∃ Q, now / 64 = Q := ⟨_, rfl⟩
  have a0 : ((due : Int) / 64) = (A0 : Int) := by omega
  have a0' : (due : Int).tdiv 64 = (A0 : Int) := by rw [Int.tdiv_eq_ediv_of_nonneg (by omega)]; exact a0
  have n0 : ((now : Int) / 64) = (N0 : Int) := by omega
  have n0' : (now : Int).tdiv 64 = (N0 : Int) := by rw [Int.tdiv_eq_ediv_of_nonneg (by omega)]; exact n0
  obtain ⟨A1, hA1⟩ : ∃ Q, due / 4096 = Q := ⟨_, rfl⟩
  obtain ⟨N1, hN1⟩ : ∃ Q, now / 4096 = Q := ⟨_, rfl⟩
  have a1 : ((due : Int) / 4096) = (A1 : Int) := by omega
  have a1' : (due : Int).tdiv 4096 = (A1 : Int) := by rw [Int.tdiv_eq_ediv_of_nonneg (by omega)]; exact a1
  have n1 : ((now : Int) / 4096) = (N1 : Int) := by omega
  have n1' : (now : Int).tdiv 4096 = (N1 : Int) := by rw [Int.tdiv_eq_ediv_of_nonneg (by omega)]; exact n1
  obtain ⟨A2, hA2⟩ : ∃ Q, due / 262144 = Q := ⟨_, rfl⟩
  obtain ⟨N2, hN2⟩ : ∃ Q, now / 262144 = Q := ⟨_, rfl⟩
  have a2 : ((due : Int) / 262144) = (A2 : Int) := by omega
  have a2' : (due : Int).tdiv 262144 = (A2 : Int) := by rw [Int.tdiv_eq_ediv_of_nonneg (by omega)]; exact a2
  have n2 : ((now : Int) / 262144) = (N2 : Int) := by omega
  have n2' : (now : Int).tdiv 262144 = (N2 : Int) := by rw [Int.tdiv_eq_ediv_of_nonneg (by omega)]; exact n2
  obtain ⟨A3, hA3⟩ : ∃ Q, due / 16777216 = Q := ⟨_, rfl⟩
  obtain ⟨N3, hN3⟩ : ∃ Q, now / 16777216 = Q := ⟨_, rfl⟩
  have a3 : ((due : Int) / 16777216) = (A3 : Int) := by omega
  have a3' : (due : Int).tdiv 16777216 = (A3 : Int) := by rw [Int.tdiv_eq_ediv_of_nonneg (by omega)]; exact a3
  have n3 : ((now : Int) / 16777216) = (N3 : Int) := by omega
  have n3' : (now : Int).tdiv 16777216 = (N3 : Int) := by rw [Int.tdiv_eq_ediv_of_nonneg (by omega)]; exact n3
  have HS : Hid (slotOf now due = if A0 = N0 then due % 64 else if A1 = N1 then 64 + A0 % 64 else if A2 = N2 then 128 + A1 % 64 else if A3 = N3 then 192 + A2 % 64 else 256 + A3 % 64) := Lib.hid (by unfold slotOf; rw [hA0, hA1, hA2, hA3, hN0, hN1, hN2, hN3])
  have HD := Lib.hid (And.intro hA0 (And.intro hA1 (And.intro hA2 hA3)))
  have b0 : (A0 : Int) ≤ 2305843009213693952 := by omega
  have b1 : (A1 : Int) ≤ 2305843009213693952 := by omega
  have b2 : (A2 : Int) ≤ 2305843009213693952 := by omega
  have b3 : (A3 : Int) ≤ 2305843009213693952 := by omega
  have b4 : (N0 : Int) ≤ 2305843009213693952 := by omega
  have b5 : (N1 : Int) ≤ 2305843009213693952 := by omega
  have b6 : (N2 : Int) ≤ 2305843009213693952 := by omega
  have b7 : (N3 : Int) ≤ 2305843009213693952 := by omega
  clear hA0 hA1 hA2 hA3 hN0 hN1 hN2 hN3
  by_cases e0 : A0 = N0
  · subst e0
    have HC := Lib.hid (fun (w : World) => HA.out w 4 1 (by omega) (by omega))
    rw [Nat.div_one] at HC
    rw [if_pos rfl] at HS
    clear HA HD
    go_enter Try.func33, Try.ntmps33
    go_wp2_with fail
    refine (HC.out _).mono ?_
    rintro e w1 ⟨rfl, m1, rfl⟩
    go_wp2_with fail
    go_ret
    refine ⟨?_, m1, rfl⟩
    rw [HS.out]
    rfl
  · have f0 : ¬ (A0 : Int) = (N0 : Int) := by omega
    by_cases e1 : A1 = N1
    · subst e1
      have HC := Lib.hid (fun (w : World) => HA.out w 68 64 (by omega) (by omega))
      rw [HD.out.1] at HC
      rw [if_neg e0, if_pos rfl] at HS
      clear HA HD
      go_enter Try.func33, Try.ntmps33
      go_wp2_with fail
      refine (HC.out _).mono ?_
      rintro e w1 ⟨rfl, m1, rfl⟩
      go_wp2_with fail
      go_ret
      refine ⟨?_, m1, rfl⟩
      rw [HS.out, ← Nat.add_assoc]
      rfl
    · have f1 : ¬ (A1 : Int) = (N1 : Int) := by omega
      by_cases e2 : A2 = N2
      · subst e2
        have HC := Lib.hid (fun (w : World) => HA.out w 132 4096 (by omega) (by omega))
        rw [HD.out.2.1] at HC
        rw [if_neg e0, if_neg e1, if_pos rfl] at HS
        clear HA HD
        go_enter Try.func33, Try.ntmps33
        go_wp2_with fail
        refine (HC.out _).mono ?_
        rintro e w1 ⟨rfl, m1, rfl⟩
        go_wp2_with fail
        go_ret
        refine ⟨?_, m1, rfl⟩
        rw [HS.out, ← Nat.add_assoc]
        rfl
      · have f2 : ¬ (A2 : Int) = (N2 : Int) := by omega
        by_cases e3 : A3 = N3
        · subst e3
          have HC := Lib.hid (fun (w : World) => HA.out w 196 262144 (by omega) (by omega))
          rw [HD.out.2.2.1] at HC
          rw [if_neg e0, if_neg e1, if_neg e2, if_pos rfl] at HS
          clear HA HD
          go_enter Try.func33, Try.ntmps33
          go_wp2_with fail
          refine (HC.out _).mono ?_
          rintro e w1 ⟨rfl, m1, rfl⟩
          go_wp2_with fail
          go_ret
          refine ⟨?_, m1, rfl⟩
          rw [HS.out, ← Nat.add_assoc]
          rfl
        · have f3 : ¬ (A3 : Int) = (N3 : Int) := by omega
          have HC := Lib.hid (fun (w : World) => HA.out w 260 16777216 (by omega) (by omega))
          rw [HD.out.2.2.2] at HC
          rw [if_neg e0, if_neg e1, if_neg e2, if_neg e3] at HS
          clear HA HD
          go_enter Try.func33, Try.ntmps33
          go_wp2_with fail
          refine (HC.out _).mono ?_
          rintro e w1 ⟨rfl, m1, rfl⟩
          go_wp2_with fail
          go_ret
          refine ⟨?_, m1, rfl⟩
          rw [HS.out, ← Nat.add_assoc]
          rfl

/-- one is taken out of a slot, if there is one -/
structure Took (F : Nat → Prop) (b : Nat) (hv : List Value) (ch : Nat → List Tm) (s : Nat) (w w' : World) : Prop where
  chn : Chn w' F b hv (upd ch s (ch s).tail)
  kp : Kp F w w'
  size : w'.heap.size = w.heap.size
  cur : ∀ c r, ch s = c :: r → (∃ p q, Nd w' c p q) ∧ F c.blk ∧ ∀ s', s' < 320 → ∀ x ∈ upd ch s r s', x.blk ≠ c.blk
theorem upd_self {α : Type} (f : Nat → α) (k : Nat) (v : α) (h : f k = v) : upd f k v = f := by
  funext j
  by_cases e : j = k
  · subst e; rw [upd_same, h]
  · rw [upd_other _ _ e]
theorem take_apart (h : Chn w F b hv ch) {s : Nat} (hs : s < 320) {c : Tm} {r : List Tm} (hl : ch s = c :: r) : ∀ s', s' < 320 → ∀ x ∈ upd ch s r s', x.blk ≠ c.blk := by
  intro s' hs' x hx e
  by_cases e2 : s' = s
  · subst e2
    rw [upd_same] at hx
    have hn := h.nd s' hs
    rw [hl] at hn
    simp only [List.map_cons, List.nodup_cons, List.mem_map, not_exists, not_and] at hn
    exact hn.1 x hx e
  · rw [upd_other _ _ e2] at hx
    exact e2 (h.ap s' s hs' hs x hx c (by rw [hl]; simp) e)
theorem take_any (h : Chn w F b hv ch) {s : Nat} (hs : s < 320) :
    Calls Try.prog 43 #[.pointer (some ⟨b, 4 + s, none⟩)] w fun e w' => e = .returned (tptr (hdOr (ch s) none)) ∧ Took F b hv ch s w w' := by
  cases hl : ch s with
  | nil =>
    refine (take_none h hs hl).mono ?_
    rintro e w' ⟨rfl, rfl⟩
    refine ⟨rfl, ⟨?_, Kp.refl F w, rfl, fun c r e => by rw [hl] at e; cases e⟩⟩
    rw [hl, List.tail_nil, upd_self _ _ _ hl]
    exact h
  | cons c r =>
    refine (take_some h hs hl).mono ?_
    rintro e w' ⟨rfl, h1, h2, h3, h4⟩
    refine ⟨rfl, ⟨by rw [hl]; exact h1, h2, h3, fun c' r' e => ?_⟩⟩
    rw [hl] at e
    injection e with e1 e2
    subst e1 e2
    exact ⟨h4, h.inF s hs c (by rw [hl]; simp), take_apart h hs hl⟩

/-- a slot's timers were poured into a lesser wheel -/
def PourTo (F : Nat → Prop) (b : Nat) (hv : List Value) (ch : Nat → List Tm) (s d L : Nat) (w : World) (e : Ending) (w' : World) : Prop :=
  e = .returned (.tuple #[]) ∧ ∃ ch', Chn w' F b hv ch' ∧ Kp F w w' ∧ w'.heap.size = w.heap.size ∧ ∀ s', s' < 320 → ∀ t, t ∈ ch' s' ↔ (s' ≠ s ∧ t ∈ ch s') ∨ (t ∈ ch s ∧ s' = d + t.due / L % 64)
/-- .. as far as it has come -/
structure Pouring (F : Nat → Prop) (b : Nat) (hv : List Value) (ch : Nat → List Tm) (s d L : Nat) (w : World) (dn rst : List Tm) (wr : World) (chr : Nat → List Tm) : Prop where
  all : ch s = dn ++ rst
  chn : Chn wr F b hv chr
  kp : Kp F w wr
  size : wr.heap.size = w.heap.size
  rest : chr s = rst.tail
  cur : ∀ c r, rst = c :: r → (∃ p q, Nd wr c p q) ∧ F c.blk ∧ ∀ s', s' < 320 → ∀ x ∈ chr s', x.blk ≠ c.blk
  mem : ∀ s', s' < 320 → s' ≠ s → ∀ x, x ∈ chr s' ↔ x ∈ ch s' ∨ (x ∈ dn ∧ s' = d + x.due / L % 64)

theorem Pouring.step {s d L : Nat} {dn r : List Tm} {c : Tm} {wr w2 w3 : World} {chr : Nat → List Tm} (h : Pouring F b hv ch s d L w dn (c :: r) wr chr) (hd : ∀ i, i < 64 → d + i ≠ s ∧ d + i < 320)
    (ha : Chn w2 F b hv (upd chr (d + c.due / L % 64) (c :: chr (d + c.due / L % 64)))) (hk : Kp F wr w2) (hz : w2.heap.size = wr.heap.size) (ht : Took F b hv (upd chr (d + c.due / L % 64) (c :: chr (d + c.due / L % 64))) s w2 w3) :
    ∃ chr', Pouring F b hv ch s d L w (dn ++ [c]) r w3 chr' ∧ (upd chr (d + c.due / L % 64) (c :: chr (d + c.due / L % 64))) s = r := by
  obtain ⟨D, hD⟩ : ∃ D, d + c.due / L % 64 = D := ⟨_, rfl⟩
  have hDs : D ≠ s := by have := (hd (c.due / L % 64) (Nat.mod_lt _ (by omega))).1; omega
  rw [hD] at ha ht ⊢
  have hr : (upd chr D (c :: chr D)) s = r := by rw [upd_other _ _ (Ne.symm hDs), h.rest]; rfl
  refine ⟨_, ⟨by rw [h.all]; simp, ht.chn, (h.kp.trans' hk).trans' ht.kp, ht.size.trans (hz.trans h.size), ?_, ?_, ?_⟩, hr⟩
  · rw [upd_same, hr]
  · intro c' r' e
    have := ht.cur c' r' (by rw [hr, e])
    rw [hr, e]
    exact this
  · intro s' hs' hne x
    rw [upd_other _ _ hne]
    by_cases e : s' = D
    · subst e
      rw [upd_same, List.mem_cons, h.mem s' hs' hne]
      constructor
      · rintro (rfl | h1 | h1)
        · exact .inr ⟨by simp, hD.symm⟩
        · exact .inl h1
        · exact .inr ⟨by simp [h1.1], h1.2⟩
      · rintro (h1 | ⟨h1, h2⟩)
        · exact .inr (.inl h1)
        · rcases List.mem_append.1 h1 with h1 | h1
          · exact .inr (.inr ⟨h1, h2⟩)
          · exact .inl (by simpa using h1)
    · rw [upd_other _ _ e, h.mem s' hs' hne]
      constructor
      · rintro (h1 | h1)
        · exact .inl h1
        · exact .inr ⟨by simp [h1.1], h1.2⟩
      · rintro (h1 | ⟨h1, h2⟩)
        · exact .inl h1
        · rcases List.mem_append.1 h1 with h1 | h1
          · exact .inr ⟨h1, h2⟩
          · obtain rfl : x = c := by simpa using h1
            exact absurd (h2.trans hD) e
theorem Pouring.done {s d L : Nat} {wr : World} {dn : List Tm} {chr : Nat → List Tm} (h : Pouring F b hv ch s d L w dn [] wr chr) (hd : ∀ i, i < 64 → d + i ≠ s ∧ d + i < 320) : PourTo F b hv ch s d L w (.returned (.tuple #[])) wr := by
  refine ⟨rfl, chr, h.chn, h.kp, h.size, fun s' hs' t => ?_⟩
  have hall := h.all
  rw [List.append_nil] at hall
  by_cases e : s' = s
  · subst e
    rw [h.rest, List.tail_nil]
    constructor
    · intro h1; simp at h1
    · rintro (⟨h1, _⟩ | ⟨_, h2⟩)
      · exact absurd rfl h1
      · exact absurd h2.symm (hd _ (Nat.mod_lt _ (by omega))).1
  · rw [h.mem s' hs' e, hall]
    constructor
    · rintro (h1 | h1)
      · exact .inl ⟨e, h1⟩
      · exact .inr h1
    · rintro (⟨_, h1⟩ | h1)
      · exact .inl h1
      · exact .inr h1

set_option maxRecDepth 100000 in
set_option maxHeartbeats 2000000 in
theorem pour_any (h : Chn w F b hv ch) {s d L : Nat} (hs : s < 320) (hd : ∀ i, i < 64 → d + i ≠ s ∧ d + i < 320) (hL : 0 < L) (hL2 : L ≤ 16777216) (hdue : ∀ t ∈ ch s, t.due ≤ 2305843009213693952) :
    Calls Try.prog 46 #[.pointer (some ⟨b, 4 + s, none⟩), .pointer (some ⟨b, 4 + d, none⟩), .int .i64 (L : Nat)] w (PourTo F b hv ch s d L w) := by
  have HT := Lib.hid (take_any h hs)
  have H0 := Lib.hid h
  have HD := Lib.hid hd
  have HU := Lib.hid hdue
  have hL3 : (0 : Int) < (L : Int) := by omega
  obtain ⟨o, ho⟩ : ∃ o, 4 + s = o := ⟨_, rfl⟩
  obtain ⟨o2, ho2⟩ : ∃ o, 4 + d = o := ⟨_, rfl⟩
  have HO := Lib.hid (And.intro ho ho2)
  rw [ho] at HT ⊢
  rw [ho2]
  clear h hd hdue ho ho2
  go_enter Try.func46, Try.ntmps46
  go_wp2_with fail
  refine HT.out.mono ?_
  rintro e w1 ⟨rfl, h1⟩
  have HP : Hid (∃ chr, Pouring F b hv ch s d L w [] (ch s) w1 chr) := by
    refine Lib.hid ⟨_, ⟨by simp, h1.chn, h1.kp, h1.size, upd_same _ _ _, fun c r e => ?_, fun s' hs' hne x => ?_⟩⟩
    · have := h1.cur c r e
      rw [e]
      exact this
    · rw [upd_other _ _ hne]
      simp
  clear h1 HT
  go_wp2_with fail
  go_loopg [6] (ch s).length (fun gk s6 wr => ∃ dn rst chr, gk = rst.length ∧ s6 = tptr (hdOr rst none) ∧ Pouring F b hv ch s d L w dn rst wr chr)
  case atStart =>
    obtain ⟨chr, hp⟩ := HP.out
    exact ⟨[], ch s, chr, rfl, rfl, hp⟩
  case round =>
    obtain ⟨dn, rst, chr, rfl, h6, hp⟩ := hrel
    clear HP
    cases rst with
    | nil =>
      rw [show tptr (hdOr [] none) = .pointer none from rfl] at h6
      subst h6
      have HQ := Lib.hid hp
      clear hp
      go_wp2_with fail
      go_end0
      exact HQ.out.done HD.out
    | cons c r =>
      rw [show tptr (hdOr (c :: r) none) = .pointer (some ⟨c.blk, 0, none⟩) from rfl] at h6
      subst h6
      obtain ⟨⟨p, q, hn⟩, hF, hap⟩ := hp.cur c r rfl
      obtain ⟨-, -, c2, -, -, fc, -⟩ := hn.facts
      have hcd : c.due ≤ 2305843009213693952 := HU.out c (by rw [hp.all]; simp)
      have hat := fun w => at_q w b o2 c.due L hL hL2 (by omega)
      have HA := Lib.hid hat
      have hadd := fun m => add_any (hp.chn.drewN m) (HD.out (c.due / L % 64) (Nat.mod_lt _ (by omega))).2 (show Nd (wr.drewN m) c p q from hn) hF hap
      rw [show 4 + (d + c.due / L % 64) = o2 + c.due / L % 64 by have := HO.out.2; omega] at hadd
      have HB := Lib.hid hadd
      have HQ := Lib.hid hp
      clear hp hat hadd hn hap
      obtain ⟨g, hg⟩ : ∃ g, c.blk = g := ⟨_, rfl⟩
      rw [hg] at c2 fc HB ⊢
      obtain ⟨D, hD⟩ : ∃ D, c.due = D := ⟨_, rfl⟩
      have HDD := Lib.hid hD
      rw [hD] at c2 hcd HA
      clear hg hD
      go_wp2_with fail
      refine (HA.out _).mono ?_
      rintro e w2 ⟨rfl, m2, hw2⟩
      have HB2 := Lib.hid (HB.out m2)
      rw [← hw2] at HB2
      rw [← HDD.out]
      have HW2 := Lib.hid hw2
      clear hw2 HB
      go_wp2_with fail
      refine HB2.out.mono ?_
      rintro e w3 ⟨rfl, h3, h4, h5⟩
      have h6 : Kp F wr w3 := ((kp_drewN (Kp.refl F wr) m2).trans' (by rw [← HW2.out]; exact h4))
      have h7 : w3.heap.size = wr.heap.size := by rw [h5, HW2.out]; rfl
      have HT3 := Lib.hid (take_any h3 hs)
      rw [HO.out.1] at HT3
      have H3 := Lib.hid (And.intro h3 (And.intro h6 h7))
      clear h3 h4 h5 h6 h7 HB2
      go_wp2_with fail
      refine HT3.out.mono ?_
      rintro e w4 ⟨rfl, h8⟩
      obtain ⟨chr', hp', hr'⟩ := HQ.out.step HD.out H3.out.1 H3.out.2.1 H3.out.2.2 h8
      rw [hr']
      have HR := Lib.hid (And.intro hp' hr')
      clear hp' hr' h8
      go_wp2_with fail
      go_roundg r.length
      case measure => simp
      case rel => exact ⟨dn ++ [c], r, chr', rfl, rfl, HR.out.1⟩
end
end Go.Proofs.Ytmekhijmghddiaa
