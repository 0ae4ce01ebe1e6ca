/- A supervisor's ways: Begin, Down, Tick, Stop, Up, Done. -/
import Derived.Test.YtbdogiblndlimaaSuNote
import Derived.Test.YtbdogiblndlimaaSuOk
namespace Go.Proofs.Ytbdogiblndlimaa
open Go.RowKit
set_option linter.unusedVariables false

section
variable {w w' : World} {b gc i c : Nat} {tv : Value} {S S' : Su} {k : Kd} {A : Acts} {now : Nat} {e : Ending}
/-- what is left of it, and what it said; the notes may have moved -/
def SuTo2 (w : World) (b gc : Nat) (tv : Value) (S' : Su) (A : Acts) (e : Ending) (w' : World) : Prop :=
  ∃ v tv', e = .returned v ∧ SuAt w' b gc tv' S' ∧ (∀ g, tv'.ownBlock = some g → tv.ownBlock = some g ∨ w.heap.size ≤ g) ∧ w'.ownsS 40 2 v A.length (acC A) ∧ (∀ g, v.ownBlock = some g → w.heap.size ≤ g) ∧ Kp (fun q => q = b ∨ q = gc ∨ tv.ownBlock = some q) w w'
theorem SuTo.to2 {w1 : World} {tv1 : Value} (h : SuTo w1 b gc tv1 S' A e w') (hk : Kp (fun q => q = b ∨ q = gc ∨ tv.ownBlock = some q) w w1) (ht : ∀ g, tv1.ownBlock = some g → tv.ownBlock = some g ∨ w.heap.size ≤ g) : SuTo2 w b gc tv S' A e w' := by
  obtain ⟨v, h1, h2, h3, h4, h5⟩ := h
  have hz := hk.size
  exact ⟨v, tv1, h1, h2, ht, h3, fun g hg => Nat.le_trans hz (h4 g hg), hk.trans' (h5.mono fun q _ e => e.elim .inl fun e => .inr (.inl e))⟩
theorem SuAt.quiet (h : SuAt w' b gc tv S) (hk : Kp (fun q => q = b ∨ q = gc ∨ tv.ownBlock = some q) w w') : SuTo2 w b gc tv S [] (.returned (.slice none 0 0)) w' :=
  ⟨_, tv, rfl, h, fun g hg => .inl hg, ownsS_nil _ _ _, (fun g hg => by cases hg), hk⟩
set_option maxHeartbeats 1000000 in
theorem done_any (h : SuAt w b gc tv S) : Calls Try.prog 20 #[.pointer (some ⟨b, 0, none⟩)] w fun e w' => e = .returned (.bool (decide (S.st = 3))) ∧ w = w' := by
  have c5 := h.c5
  clear h
  by_cases h3 : S.st = 3
  · rw [h3] at c5 ⊢
    go_enter Try.func20, Try.ntmps20
    go_wp2_with fail
    go_ret
    exact ⟨rfl, rfl⟩
  · have e3 : ((S.st : Int) == 3) = false := by simp; omega
    have HE : Hid (decide (S.st = 3) = false) := Lib.hid (by simpa using h3)
    go_enter Try.func20, Try.ntmps20
    go_wp2_with fail
    go_ret
    exact ⟨by rw [HE.out]; rfl, rfl⟩
set_option maxHeartbeats 1000000 in
theorem down_no (h : SuAt w b gc tv S) (x : Int) (hx : ∀ i : Nat, x = i → upAt S.cs i = false) (hl : S.cs.length ≤ 32) (normal : Bool) (now : Nat) :
    Calls Try.prog 14 #[.pointer (some ⟨b, 0, none⟩), .int .i64 x, .bool normal, .int .i64 (now : Nat)] w fun e w' => e = .returned (.slice none 0 0) ∧ w = w' := by
  have HC : Hid (Calls Try.prog 33 #[.pointer (some ⟨b, 0, none⟩), .int .i64 x] w fun e w' => e = .returned (.bool false) ∧ w = w') := by
    refine Lib.hid ?_
    by_cases h1 : x < 0 ∨ (S.cs.length : Int) ≤ x
    · exact isUp_no h x h1 hl
    · obtain ⟨i, rfl⟩ : ∃ i : Nat, x = i := ⟨x.toNat, by omega⟩
      obtain ⟨k, hk⟩ : ∃ k, S.cs[i]? = some k := ⟨_, List.getElem?_eq_getElem (by omega)⟩
      have := hx i rfl
      rw [upAt_of hk] at this
      have h2 := isUp_yes h hk hl
      rw [this] at h2
      exact h2
  clear h hx
  go_enter Try.func14, Try.ntmps14
  go_wp2_with fail
  refine HC.out.mono ?_
  rintro e w' ⟨rfl, rfl⟩
  clear HC
  go_wp2_with fail
  go_ret
  exact ⟨rfl, rfl⟩
theorem downOf_get (hk : S.cs[c]? = some k) : (downOf S c).cs[c]? = some ⟨k.r, k.t, false⟩ := by
  show (setU _ _ _)[c]? = _
  rw [setU_get, hk]
  simp
set_option maxHeartbeats 2000000 in
/-- a child goes down that is not the one that is being stopped, or none is to be started -/
theorem down_quiet (h : SuAt w b gc tv S) (hok : SuOk S now) (hk : S.cs[c]? = some k) (hu : k.u = true) (normal : Bool) (hq : (S.st = 1 ∧ againB k.r normal = false) ∨ (S.st = 2 ∧ c ≠ S.hl)) :
    Calls Try.prog 14 #[.pointer (some ⟨b, 0, none⟩), .int .i64 (c : Nat), .bool normal, .int .i64 (now : Nat)] w (SuTo2 w b gc tv (downOf S c) []) := by
  have hl := hok.b.len
  have HC := Lib.hid (isUp_yes h hk hl)
  rw [hu] at HC
  have c1 := h.c1
  have k2 := h.k2 hk
  have hfz := h.fzk
  have hcl := (List.getElem?_eq_some_iff.1 hk).1
  have hci : (c : Int) < S.cs.length := by omega
  have h1 := h.turn hk false
  have hk1 : Kp (fun q => q = b ∨ q = gc ∨ tv.ownBlock = some q) w (w.setCell ⟨gc, c * 3 + 2, none⟩ (.bool false)) := (Kp.refl _ w).setCell _ _ (.inl (.inr (.inl rfl)))
  obtain ⟨w1, hw1⟩ : ∃ w1, w.setCell ⟨gc, c * 3 + 2, none⟩ (.bool false) = w1 := ⟨_, rfl⟩
  rw [hw1] at h1 hk1
  have c5 : w1.cell? ⟨b, 5, none⟩ = some (.int .i64 (S.st : Nat)) := h1.c5
  have c9 : w1.cell? ⟨b, 9, none⟩ = some (.int .i64 (S.hl : Nat)) := h1.c9
  have HE := Lib.hid (SuAt.quiet (S := downOf S c) h1 hk1)
  have hd2 := downOf_get hk
  have HA := Lib.hid (isAgain_any (S := downOf S c) h1 hd2 (by show (setU _ _ _).length ≤ 32; rw [setU_len]; exact hl) normal)
  rw [hu] at k2
  clear h h1 hk1 hd2 hok
  go_enter Try.func14, Try.ntmps14
  go_wp2_with fail
  refine HC.out.mono ?_
  rintro e w' ⟨rfl, rfl⟩
  clear HC
  rcases hq with ⟨hs, ha⟩ | ⟨hs, hne⟩
  · rw [hs] at c5
    simp only [ha] at HA
    go_wp2_with fail
    clear hw1 c1 k2 hfz
    refine HA.out.mono ?_
    rintro e w' ⟨rfl, rfl⟩
    clear HA
    go_wp2_with fail
    go_ret
    exact HE.out
  · rw [hs] at c5
    have e1 : ((c : Int) == (S.hl : Int)) = false := by simp; omega
    have e2 : (c == S.hl) = false := by simpa using hne
    clear HA
    go_wp2_with fail
    go_ret
    exact HE.out
theorem downOf_len : (downOf S c).cs.length = S.cs.length := setU_len
set_option maxHeartbeats 2000000 in
/-- the one that is being stopped goes down -/
theorem down_turn (h : SuAt w b gc tv S) (hok : SuOk S now) (hk : S.cs[c]? = some k) (hu : k.u = true) (normal : Bool) (hs : S.st = 2) (hc : c = S.hl) :
    Calls Try.prog 14 #[.pointer (some ⟨b, 0, none⟩), .int .i64 (c : Nat), .bool normal, .int .i64 (now : Nat)] w (SuTo2 w b gc tv (turnS (downOf S c) now) (turnA (downOf S c))) := by
  have hl := hok.b.len
  have HC := Lib.hid (isUp_yes h hk hl)
  rw [hu] at HC
  have c1 := h.c1
  have k2 := h.k2 hk
  have hfz := h.fzk
  have hcl := (List.getElem?_eq_some_iff.1 hk).1
  have hci : (c : Int) < S.cs.length := by omega
  have h1 := h.turn hk false
  have hk1 : Kp (fun q => q = b ∨ q = gc ∨ tv.ownBlock = some q) w (w.setCell ⟨gc, c * 3 + 2, none⟩ (.bool false)) := (Kp.refl _ w).setCell _ _ (.inl (.inr (.inl rfl)))
  obtain ⟨w1, hw1⟩ : ∃ w1, w.setCell ⟨gc, c * 3 + 2, none⟩ (.bool false) = w1 := ⟨_, rfl⟩
  rw [hw1] at h1 hk1
  have c5 : w1.cell? ⟨b, 5, none⟩ = some (.int .i64 2) := by
    have : w1.cell? ⟨b, 5, none⟩ = some (.int .i64 (S.st : Nat)) := h1.c5
    rw [hs] at this
    exact this
  have c9 : w1.cell? ⟨b, 9, none⟩ = some (.int .i64 (S.hl : Nat)) := h1.c9
  have HT := Lib.hid (turn_any (S := downOf S c) h1 (by rw [downOf_len]; exact hl) (by rw [downOf_len]; exact hok.b.to) hok.b.fr (hok.busy hs).2.1 now)
  have HX : Hid (∀ e w', SuTo w1 b gc tv (turnS (downOf S c) now) (turnA (downOf S c)) e w' → SuTo2 w b gc tv (turnS (downOf S c) now) (turnA (downOf S c)) e w') := Lib.hid fun e w' hx => hx.to2 hk1 fun g hg => .inl hg
  rw [hu] at k2
  have e1 : ((c : Int) == (S.hl : Int)) = true := by simp; omega
  clear h h1 hk1 hok hs hc
  go_enter Try.func14, Try.ntmps14
  go_wp2_with fail
  refine HC.out.mono ?_
  rintro e w' ⟨rfl, rfl⟩
  clear HC
  go_wp2_with fail
  clear hw1 c1 k2 hfz
  refine HT.out.mono ?_
  rintro e w' ht
  obtain ⟨v, rfl, -⟩ := id ht
  have HR := Lib.hid (HX.out _ _ ht)
  clear ht HT HX
  go_wp2_with fail
  go_ret
  exact HR.out
set_option maxHeartbeats 2000000 in
/-- a restart, or the end -/
theorem down_again (h : SuAt w b gc tv S) (hok : SuOk S now) (hk : S.cs[c]? = some k) (hu : k.u = true) (normal : Bool) (hs : S.st = 1) (ha : againB k.r normal = true) (hnow : now ≤ 4611686018427387904) :
    Calls Try.prog 14 #[.pointer (some ⟨b, 0, none⟩), .int .i64 (c : Nat), .bool normal, .int .i64 (now : Nat)] w (SuTo2 w b gc tv (turnS (planS (downOf S c) c now) now) (turnA (planS (downOf S c) c now))) := by
  have hl := hok.b.len
  have HC := Lib.hid (isUp_yes h hk hl)
  rw [hu] at HC
  have c1 := h.c1
  have k2 := h.k2 hk
  have hfz := h.fzk
  have hcl := (List.getElem?_eq_some_iff.1 hk).1
  have hci : (c : Int) < S.cs.length := by omega
  have h1 := h.turn hk false
  have hk1 : Kp (fun q => q = b ∨ q = gc ∨ tv.ownBlock = some q) w (w.setCell ⟨gc, c * 3 + 2, none⟩ (.bool false)) := (Kp.refl _ w).setCell _ _ (.inl (.inr (.inl rfl)))
  obtain ⟨w1, hw1⟩ : ∃ w1, w.setCell ⟨gc, c * 3 + 2, none⟩ (.bool false) = w1 := ⟨_, rfl⟩
  rw [hw1] at h1 hk1
  have c5 : w1.cell? ⟨b, 5, none⟩ = some (.int .i64 1) := by
    have : w1.cell? ⟨b, 5, none⟩ = some (.int .i64 (S.st : Nat)) := h1.c5
    rw [hs] at this
    exact this
  have hd2 := downOf_get hk
  have hlD : (downOf S c).cs.length ≤ 32 := by rw [downOf_len]; exact hl
  have HA := Lib.hid (isAgain_any (S := downOf S c) h1 hd2 hlD normal)
  simp only [ha] at HA
  have hbD : SuB (downOf S c) now := hok.b.down
  have htsm : (downOf S c).ts.length ≤ (downOf S c).m := hok.tsm (.inl (by omega))
  have HN := Lib.hid (note_any (S := downOf S c) h1 htsm hbD.m hbD.tt hbD.tt1 hbD.tso hbD.tsn hnow)
  have HP := Lib.hid (plan_ok (c := c) hbD htsm (by rw [downOf_len]; exact hcl) hok.st)
  have HK1 := Lib.hid (And.intro hk1 (And.intro hbD hlD))
  rw [hu] at k2
  clear h h1 hk1 hd2 hok htsm hbD hlD hs
  go_enter Try.func14, Try.ntmps14
  go_wp2_with fail
  refine HC.out.mono ?_
  rintro e w' ⟨rfl, rfl⟩
  clear HC
  go_wp2_with fail
  clear hw1 c1 k2 hfz
  refine HA.out.mono ?_
  rintro e w' ⟨rfl, rfl⟩
  clear HA c5
  go_wp2_with fail
  refine HN.out.mono ?_
  rintro e w2 ⟨rfl, tv2, h2, ht2, hk2⟩
  obtain ⟨hk1, hbD, hlD⟩ := HK1.out
  have hk2' : Kp (fun q => q = b ∨ q = gc ∨ tv.ownBlock = some q) w w2 := hk1.trans' (hk2.mono fun q _ e => e.imp id .inr)
  have hz1 := hk1.size
  have ht2' : ∀ g, tv2.ownBlock = some g → tv.ownBlock = some g ∨ w.heap.size ≤ g := fun g hg => (ht2 g hg).imp id fun e => by omega
  obtain ⟨q, hq⟩ : ∃ q, noteB (downOf S c).m (downOf S c).tt (downOf S c).ts now = q := ⟨_, rfl⟩
  simp only [hq]
  have key : ∀ (S3 : Su) (w3 : World), SuAt w3 b gc tv2 S3 → Kp (fun q => q = b) w2 w3 → { S3 with hl := c } = planS (downOf S c) c now →
      SuAt (w3.setCell ⟨b, 9, none⟩ (.int .i64 (c : Nat))) b gc tv2 (planS (downOf S c) c now) ∧ Kp (fun q => q = b ∨ q = gc ∨ tv.ownBlock = some q) w (w3.setCell ⟨b, 9, none⟩ (.int .i64 (c : Nat))) := fun S3 w3 h3 hk3 he => by
    rw [← he]
    exact ⟨h3.put (S' := { S3 with hl := c }) 9 (.int .i64 (c : Nat)) rfl rfl rfl, (hk2'.trans' (hk3.mono fun q _ e => .inl e)).setCell _ _ (.inl (.inl rfl))⟩
  have HX : Hid (∀ w4, SuAt w4 b gc tv2 (planS (downOf S c) c now) → Kp (fun q => q = b ∨ q = gc ∨ tv.ownBlock = some q) w w4 →
      Calls Try.prog 38 #[.pointer (some ⟨b, 0, none⟩), .int .i64 (now : Nat)] w4 (SuTo2 w b gc tv (turnS (planS (downOf S c) c now) now) (turnA (planS (downOf S c) c now)))) := by
    refine Lib.hid fun w4 h4 hk4 => ?_
    obtain ⟨p1, p2, p3, p4, p5⟩ := HP.out
    exact (turn_any h4 p1.len p1.to p1.fr p3 now).mono fun e w' hx => hx.to2 hk4 ht2'
  have hcc : ((c : Int) == (c : Int)) = true := by simp
  cases q with
  | true =>
    have HE := Lib.hid (end_any h2 hlD)
    have HY := Lib.hid (fun w3 h3 hk3 => key (endS { downOf S c with ts := noteTs (downOf S c).m (downOf S c).tt (downOf S c).ts now }) w3 h3 hk3 (by unfold planS; rw [hq]; rfl))
    clear HN HK1 hk1 hbD hlD hk2' hk2 h2 ht2' ht2 key hq HP hz1
    go_wp2_with fail
    refine HE.out.mono ?_
    rintro e w3 ⟨rfl, h3, hk3⟩
    have hY := HY.out w3 h3 hk3
    have c9 := h3.c9
    have hfz := h3.fz
    obtain ⟨w4, hw4⟩ : ∃ w4, w3.setCell ⟨b, 9, none⟩ (.int .i64 (c : Nat)) = w4 := ⟨_, rfl⟩
    rw [hw4] at hY
    have HT := Lib.hid (HX.out w4 hY.1 hY.2)
    have d9 : w4.cell? ⟨b, 9, none⟩ = some (.int .i64 (c : Nat)) := by rw [← hw4]; exact World.cell?_setCell_same _ _ _ c9
    clear hY h3 hk3 HE HY HX
    go_wp2_with fail
    refine HT.out.mono ?_
    rintro e w' ht
    obtain ⟨v, tv', rfl, -⟩ := id ht
    have HR := Lib.hid ht
    clear ht HT
    go_wp2_with fail
    go_ret
    exact HR.out
  | false =>
    have HE := Lib.hid (again_any (i := c) h2 hlD (by have := hlD; rw [downOf_len] at this; omega) hbD.sg)
    have HY := Lib.hid (fun w3 h3 hk3 => key (againS { downOf S c with ts := noteTs (downOf S c).m (downOf S c).tt (downOf S c).ts now } c) w3 h3 hk3 (by unfold planS; rw [hq]; rfl))
    clear HN HK1 hk1 hbD hlD hk2' hk2 h2 ht2' ht2 key hq HP hz1
    go_wp2_with fail
    refine HE.out.mono ?_
    rintro e w3 ⟨rfl, h3, hk3⟩
    have hY := HY.out w3 h3 hk3
    have c9 := h3.c9
    have hfz := h3.fz
    obtain ⟨w4, hw4⟩ : ∃ w4, w3.setCell ⟨b, 9, none⟩ (.int .i64 (c : Nat)) = w4 := ⟨_, rfl⟩
    rw [hw4] at hY
    have HT := Lib.hid (HX.out w4 hY.1 hY.2)
    have d9 : w4.cell? ⟨b, 9, none⟩ = some (.int .i64 (c : Nat)) := by rw [← hw4]; exact World.cell?_setCell_same _ _ _ c9
    clear hY h3 hk3 HE HY HX
    go_wp2_with fail
    refine HT.out.mono ?_
    rintro e w' ht
    obtain ⟨v, tv', rfl, -⟩ := id ht
    have HR := Lib.hid ht
    clear ht HT
    go_wp2_with fail
    go_ret
    exact HR.out
set_option maxHeartbeats 2000000 in
theorem begin_any (h : SuAt w b gc tv S) (hl : S.cs.length ≤ 32) : Calls Try.prog 13 #[.pointer (some ⟨b, 0, none⟩)] w (SuTo w b gc tv (beginS S) (beginA S)) := by
  by_cases h0 : S.st = 0
  · have e1 : beginS S = { S with st := 1, cs := upTo S.cs S.cs.length } := by unfold beginS; rw [if_pos h0]
    have e2 : beginA S = starts (List.range S.cs.length) := by unfold beginA; rw [if_pos h0]
    rw [e1, e2]
    have c5 := h.c5
    rw [h0] at c5
    have hfz := h.fz
    have h1 := h.put (S' := { S with st := 1 }) 5 (.int .i64 1) rfl rfl rfl
    have k1 : Kp (fun q => q = b ∨ q = gc) w (w.setCell ⟨b, 5, none⟩ (.int .i64 1)) := (Kp.refl _ w).setCell _ _ (.inl (.inl rfl))
    obtain ⟨w1, hw1⟩ : ∃ w1, w.setCell ⟨b, 5, none⟩ (.int .i64 1) = w1 := ⟨_, rfl⟩
    rw [hw1] at h1 k1
    have c1 : w1.cell? ⟨b, 1, none⟩ = some (.slice (some ⟨gc, 0, none⟩) S.cs.length S.cs.length) := h1.c1
    have HS : Hid (Und w w1 b gc tv (.slice none 0 0) { S with st := 1, cs := upTo S.cs 0 } (starts (List.range 0))) := by
      rw [upTo_zero]
      exact Lib.hid (und_nil h1 k1)
    clear h h1 k1 e1 e2 h0
    go_enter Try.func13, Try.ntmps13
    go_wp2_with fail
    clear hw1 c5 hfz c1
    go_loopg [3, 4, 18] S.cs.length (fun gk s3 s4 s18 wr => ∃ (i : Nat) (lv y : Value), i ≤ S.cs.length ∧ gk = S.cs.length - i ∧ s3 = lv ∧ s4 = y ∧ s18 = .int .i64 (i : Nat) ∧ Hid (Und w wr b gc tv lv { S with st := 1, cs := upTo S.cs i } (starts (List.range i))))
    case atStart => exact ⟨0, _, _, by omega, rfl, rfl, rfl, rfl, HS⟩
    case round =>
      obtain ⟨i, lv, y, hi, rfl, hlv, hy, rfl, HR⟩ := hrel
      obtain rfl := hlv.symm
      obtain rfl := hy.symm
      clear HS
      by_cases hlt : i < S.cs.length
      · have hR := HR.out
        have hii : (i : Int) < S.cs.length := by omega
        obtain ⟨k, hk⟩ : ∃ k, (upTo S.cs i)[i]? = some k := ⟨_, List.getElem?_eq_getElem (by rw [upTo_len]; exact hlt)⟩
        have HC := Lib.hid (start_any hR.su hk (by simp only [upTo_len]; exact hl))
        have HX := Lib.hid hR
        clear hR HR hk
        go_wp2_with fail
        refine HC.out.mono ?_
        rintro e w2 ht
        obtain ⟨rfl, -⟩ := id ht
        obtain ⟨v', w3, hr3, hU⟩ := HX.out.start ht (by rw [starts_len, List.length_range]; omega)
        have HR3 := Lib.hid hr3
        have HN : Hid (Und w w3 b gc tv v' { S with st := 1, cs := upTo S.cs (i + 1) } (starts (List.range (i + 1)))) := by
          rw [upTo_succ hlt, List.range_succ, starts_app]
          exact Lib.hid hU
        clear hr3 hU ht HX HC
        go_wp2_with (at_builtin; refine wpList_run rfl _ _ 34 rfl lv (.slice (some ⟨w2.heap.size, 0, none⟩) 1 1) rfl rfl _ w3 HR3.out ?_)
        go_roundg (S.cs.length - (i + 1))
        case measure => omega
        case rel => exact ⟨i + 1, _, _, by omega, rfl, rfl, rfl, by go_num, HN⟩
      · obtain rfl : i = S.cs.length := by omega
        have HN := Lib.hid HR.out.to
        clear HR
        go_wp2_with fail
        go_ret
        exact HN.out
  · have e1 : beginS S = S := by unfold beginS; rw [if_neg h0]
    have e2 : beginA S = [] := by unfold beginA; rw [if_neg h0]
    rw [e1, e2]
    have c5 := h.c5
    have e0 : ((S.st : Int) != 0) = true := by simp; omega
    have HN : Hid (SuTo w b gc tv S [] (.returned (.slice none 0 0)) w) := Lib.hid ⟨_, rfl, h, ownsS_nil _ _ _, (fun g hg => by cases hg), Kp.refl _ w⟩
    clear h h0 e1 e2
    go_enter Try.func13, Try.ntmps13
    go_wp2_with fail
    go_ret
    exact HN.out
set_option maxHeartbeats 2000000 in
theorem stop_any (h : SuAt w b gc tv S) (hok : SuOk S now) : Calls Try.prog 18 #[.pointer (some ⟨b, 0, none⟩), .int .i64 (now : Nat)] w (SuTo w b gc tv (stopS S now) (stopA S)) := by
  have hl := hok.b.len
  have c5 := h.c5
  have HE := Lib.hid (end_any h hl)
  have HT : Hid (∀ w1, SuAt w1 b gc tv (endS S) → Kp (fun q => q = b) w w1 → Calls Try.prog 38 #[.pointer (some ⟨b, 0, none⟩), .int .i64 (now : Nat)] w1 (SuTo w b gc tv (turnS (endS S) now) (turnA (endS S)))) := by
    refine Lib.hid fun w1 h1 hk1 => (turn_any h1 hl (Nat.le_refl _) (by show 0 ≤ 32; omega) (.inr rfl) now).mono fun e w' hx => ?_
    obtain ⟨v, x1, x2, x3, x4, x5⟩ := hx
    have hz := hk1.size
    exact ⟨v, x1, x2, x3, fun g hg => Nat.le_trans hz (x4 g hg), (hk1.mono fun q _ e => .inl e).trans' x5⟩
  have go : S.st = 0 ∨ S.st = 1 → stopS S now = turnS (endS S) now ∧ stopA S = turnA (endS S) := fun e => by
    unfold stopS stopA; rw [if_pos e, if_pos e]; exact ⟨rfl, rfl⟩
  have hst := hok.st
  have HQ : Hid (SuTo w b gc tv S [] (.returned (.slice none 0 0)) w) := Lib.hid ⟨_, rfl, h, ownsS_nil _ _ _, (fun g hg => by cases hg), Kp.refl _ w⟩
  clear h hok
  by_cases h0 : S.st = 0
  · rw [(go (.inl h0)).1, (go (.inl h0)).2]
    rw [h0] at c5
    clear go h0 hst HQ
    go_enter Try.func18, Try.ntmps18
    go_wp2_with fail
    refine HE.out.mono ?_
    rintro e w1 ⟨rfl, h1, hk1⟩
    have HC := Lib.hid (HT.out w1 h1 hk1)
    clear h1 hk1 HE HT c5
    go_wp2_with fail
    refine HC.out.mono ?_
    rintro e w' ht
    obtain ⟨v, rfl, -⟩ := id ht
    have HR := Lib.hid ht
    clear ht HC
    go_wp2_with fail
    go_ret
    exact HR.out
  · by_cases h1 : S.st = 1
    · rw [(go (.inr h1)).1, (go (.inr h1)).2]
      rw [h1] at c5
      clear go h0 hst HQ h1
      go_enter Try.func18, Try.ntmps18
      go_wp2_with fail
      refine HE.out.mono ?_
      rintro e w1 ⟨rfl, h1, hk1⟩
      have HC := Lib.hid (HT.out w1 h1 hk1)
      clear h1 hk1 HE HT c5
      go_wp2_with fail
      refine HC.out.mono ?_
      rintro e w' ht
      obtain ⟨v, rfl, -⟩ := id ht
      have HR := Lib.hid ht
      clear ht HC
      go_wp2_with fail
      go_ret
      exact HR.out
    · by_cases h2 : S.st = 2
      · have e1 : stopS S now = endS S := by unfold stopS; rw [if_neg (by omega), if_pos h2]
        have e2 : stopA S = [] := by unfold stopA; rw [if_neg (by omega)]
        rw [e1, e2]
        rw [h2] at c5
        clear go h0 h1 hst HQ h2 e1 e2
        go_enter Try.func18, Try.ntmps18
        go_wp2_with fail
        refine HE.out.mono ?_
        rintro e w1 ⟨rfl, h1, hk1⟩
        have HR : Hid (SuTo w b gc tv (endS S) [] (.returned (.slice none 0 0)) w1) := Lib.hid ⟨_, rfl, h1, ownsS_nil _ _ _, (fun g hg => by cases hg), hk1.mono fun q _ e => .inl e⟩
        clear h1 hk1 HE HT c5
        go_wp2_with fail
        go_ret
        exact HR.out
      · have e1 : stopS S now = S := by unfold stopS; rw [if_neg (by omega), if_neg h2]
        have e2 : stopA S = [] := by unfold stopA; rw [if_neg (by omega)]
        rw [e1, e2]
        have e3 : ((S.st : Int) == 0) = false := by simp; omega
        have e4 : ((S.st : Int) == 1) = false := by simp; omega
        have e5 : ((S.st : Int) == 2) = false := by simp; omega
        clear go h0 h1 hst h2 e1 e2 HE HT
        go_enter Try.func18, Try.ntmps18
        go_wp2_with fail
        go_ret
        exact HQ.out
end
end Go.Proofs.Ytbdogiblndlimaa
