/- A supervisor: those that were stopped are started; the next one is stopped, or what is to come comes. -/
import Derived.Test.YtbdogiblndlimaaSuOps
namespace Go.Proofs.Ytbdogiblndlimaa
open Go.RowKit
set_option linter.unusedVariables false

section
variable {w w' : World} {b gc i : Nat} {tv : Value} {S S' : Su} {k : Kd} {A : Acts}
/-- under way: acts so far -/
structure Und (w wr : World) (b gc : Nat) (tv lv : Value) (S : Su) (A : Acts) : Prop where
  su : SuAt wr b gc tv S
  row : wr.ownsS 40 2 lv A.length (acC A)
  new : ∀ g, lv.ownBlock = some g → w.heap.size ≤ g
  kp : Kp (fun q => q = b ∨ q = gc) w wr
theorem Und.to {wr : World} {lv : Value} (h : Und w wr b gc tv lv S A) : SuTo w b gc tv S A (.returned lv) wr := ⟨lv, rfl, h.su, h.row, h.new, h.kp⟩
theorem act_ne {w : World} {lv : Value} {n : Nat} {xs : List Value} (h : SuAt w b gc tv S) (ho : w.ownsS 40 2 lv n xs) : ∀ g, lv.ownBlock = some g → g ≠ b ∧ g ≠ gc ∧ tv.ownBlock ≠ some g := by
  intro g hg
  rcases ho.2 with ⟨rfl, _⟩ | ⟨g', cap, cur, rfl, h2, _⟩
  · cases hg
  · obtain rfl : g' = g := by injection hg
    refine ⟨fun e => ?_, fun e => ?_, fun e => ?_⟩
    · rw [e, h.head] at h2; injection h2 with h2; injection h2 with _ h2; exact absurd h2 (by decide)
    · rw [e, h.kids] at h2; injection h2 with h2; injection h2 with _ h2; exact absurd h2 (by decide)
    · obtain ⟨c2, h3⟩ := h.tim.block _ e
      rw [h3] at h2; injection h2 with h2; injection h2 with _ h2; exact absurd h2 (by decide)
/-- one more is started -/
theorem Und.start {wr w2 : World} {lv : Value} {e : Ending} (h : Und w wr b gc tv lv S A) (ht : StartTo wr b gc tv S i e w2) (hA : A.length + 1 ≤ 8796093022208) :
    ∃ v' w3, (Builtin.append_ #[34, 34] 34 #[lv, .slice (some ⟨w2.heap.size, 0, none⟩) 1 1]).run Try.prog (w2.alloc (.cells #[.int .i64 1, .int .i64 (i : Nat)] 40)) = .ok v' w3 ∧
      Und w w3 b gc tv v' { S with cs := setU S.cs i true } (A ++ [(1, ((i : Nat) : Int))]) := by
  obtain ⟨-, h2, h3⟩ := ht
  have hne := act_ne h.su h.row
  have hz := h3.size
  have hz0 := h.kp.size
  have r2 : (w2.alloc (.cells #[.int .i64 1, .int .i64 (i : Nat)] 40)).ownsS 40 2 lv A.length (acC A) := (h3.alloc _).rowS h.row fun g hg => (hne g hg).2.1
  obtain ⟨v', w3, e1, e2, e3, e4⟩ := acC_push (p := (1, ((i : Nat) : Int))) r2 (heap_alloc_new w2 _) hA
  have s2 := h2.same ((Kp.refl (fun _ => False) w2).alloc (.cells #[.int .i64 1, .int .i64 (i : Nat)] 40))
  have hne2 := act_ne s2 r2
  refine ⟨v', w3, e1, ⟨s2.kp e3 (fun e => (hne2 b e).1 rfl) (fun e => (hne2 gc e).2.1 rfl) (fun g hg e => (hne2 g e).2.2 hg), e2, fun g hg => ?_, ?_⟩⟩
  · rcases e4 g hg with e | e
    · exact h.new g e
    · simp at e; omega
  · refine (h.kp.trans' (((h3.mono fun q _ hq => .inr hq)).alloc (.cells #[.int .i64 1, .int .i64 (i : Nat)] 40))).trans (e3.mono fun q hq e => ?_)
    have := h.new q e
    exact .inr ⟨this, hq⟩
theorem und_nil (h : SuAt w b gc tv S) (hk : Kp (fun q => q = b ∨ q = gc) w' w) : Und w' w b gc tv (.slice none 0 0) S [] := ⟨h, ownsS_nil _ _ _, (fun g hg => by cases hg), hk⟩
set_option maxHeartbeats 1000000 in
theorem startAgain_any (h : SuAt w b gc tv S) (hl : S.cs.length ≤ 32) (hto : S.to ≤ S.cs.length) (hfr : S.fr ≤ 32) :
    Calls Try.prog 53 #[.pointer (some ⟨b, 0, none⟩)] w (SuTo w b gc tv { S with st := 1, cs := raise S.cs S.fr S.to } (starts (startsOf S.cs S.fr S.to))) := by
  have c5 := h.c5
  have hfz := h.fz
  have h1 := h.put (S' := { S with st := 1 }) 5 (.int .i64 1) rfl rfl rfl
  have k1 : Kp (fun q => q = b ∨ q = gc) w (w.setCell ⟨b, 5, none⟩ (.int .i64 1)) := (Kp.refl _ w).setCell _ _ (.inl (.inl rfl))
  obtain ⟨w1, hw1⟩ : ∃ w1, w.setCell ⟨b, 5, none⟩ (.int .i64 1) = w1 := ⟨_, rfl⟩
  rw [hw1] at h1 k1
  have c6 : w1.cell? ⟨b, 6, none⟩ = some (.int .i64 (S.fr : Nat)) := h1.c6
  have HS : Hid (Und w w1 b gc tv (.slice none 0 0) { S with st := 1, cs := raise S.cs S.fr S.fr } (starts (startsOf S.cs S.fr S.fr))) := by
    rw [raise_same (Nat.le_refl _), startsOf_zero (Nat.le_refl _)]
    exact Lib.hid (und_nil h1 k1)
  clear h h1 k1
  go_enter Try.func53, Try.ntmps53
  go_wp2_with fail
  clear hw1 c5 hfz c6
  go_loopg [3, 4] (S.to - S.fr) (fun gk s3 s4 wr => ∃ (i : Nat) (lv : Value), S.fr ≤ i ∧ i ≤ 32 ∧ gk = S.to - i ∧ s3 = lv ∧ s4 = .int .i64 (i : Nat) ∧ Hid (Und w wr b gc tv lv { S with st := 1, cs := raise S.cs S.fr i } (starts (startsOf S.cs S.fr i)) ∧ (S.fr < i → i ≤ S.to)))
  case atStart => exact ⟨S.fr, _, Nat.le_refl _, hfr, rfl, rfl, rfl, Lib.hid ⟨HS.out, fun e => by omega⟩⟩
  case round =>
    obtain ⟨i, lv, hi, hi2, rfl, hlv, rfl, HR⟩ := hrel
    obtain rfl := hlv.symm
    clear HS
    have hR := HR.out.1
    have c7 : wr.cell? ⟨b, 7, none⟩ = some (.int .i64 (S.to : Nat)) := hR.su.c7
    by_cases hlt : i < S.to
    · have hii : (i : Int) < S.to := by omega
      obtain ⟨k, hk⟩ : ∃ k, S.cs[i]? = some k := ⟨_, List.getElem?_eq_getElem (by omega)⟩
      obtain ⟨k', hk', e1, -, -⟩ := lift_r (p := fun i k => decide (S.fr ≤ i ∧ i < i ∧ k.r ≠ 2)) hk
      have hk2 : (raise S.cs S.fr i)[i]? = some k := by
        unfold raise
        rw [lift_get, hk]
        simp
      have hll : i < S.cs.length := by omega
      have c1 : wr.cell? ⟨b, 1, none⟩ = some (.slice (some ⟨gc, 0, none⟩) S.cs.length S.cs.length) := by
        have := hR.su.c1
        simp only [raise_len] at this
        exact this
      have k0 := hR.su.k0 hk2
      have hil : (i : Int) < S.cs.length := by omega
      by_cases hr : k.r = 2
      · have HN : Hid (Und w wr b gc tv lv { S with st := 1, cs := raise S.cs S.fr (i + 1) } (starts (startsOf S.cs S.fr (i + 1))) ∧ (S.fr < i + 1 → i + 1 ≤ S.to)) := by
          rw [raise_skip hk hr, startsOf_succ hi hk, if_neg (by simpa using hr), List.append_nil]
          exact Lib.hid ⟨hR, fun _ => by omega⟩
        rw [hr] at k0
        clear hR HR hk hk' hk2 e1 hr
        go_wp2_with fail
        go_roundg (S.to - (i + 1))
        case measure => omega
        case rel => exact ⟨i + 1, _, by omega, by omega, rfl, rfl, by go_num, HN⟩
      · have HC := Lib.hid (start_any hR.su hk2 (by simp only [raise_len]; exact hl))
        have HX := Lib.hid (And.intro hR (And.intro hk hr))
        obtain ⟨x, hx⟩ : ∃ x, k.r = x := ⟨_, rfl⟩
        rw [hx] at k0 hr
        have hr2 : (x != 2) = true := by simpa using hr
        clear hR HR hk hk' hk2 e1 hx
        go_wp2_with fail
        refine HC.out.mono ?_
        rintro e w2 ht
        obtain ⟨rfl, -⟩ := id ht
        obtain ⟨v', w3, hr3, hU⟩ := HX.out.1.start ht (by rw [starts_len]; have := @startsOf_len S.cs S.fr i; omega)
        have HR3 := Lib.hid hr3
        have HN : Hid (Und w w3 b gc tv v' { S with st := 1, cs := raise S.cs S.fr (i + 1) } (starts (startsOf S.cs S.fr (i + 1))) ∧ (S.fr < i + 1 → i + 1 ≤ S.to)) := by
          obtain ⟨-, hk, hr⟩ := HX.out
          rw [raise_succ hk hi hr, startsOf_succ hi hk, if_pos hr, starts_app]
          exact Lib.hid ⟨hU, fun _ => by omega⟩
        clear hr3 hU ht HX HC
        go_wp2_with (at_builtin; refine wpList_run rfl _ _ 34 rfl lv (.slice (some ⟨w2.heap.size, 0, none⟩) 1 1) rfl rfl _ w3 HR3.out ?_)
        go_roundg (S.to - (i + 1))
        case measure => omega
        case rel => exact ⟨i + 1, _, by omega, by omega, rfl, rfl, by go_num, HN⟩
    · have hii : ¬ (i : Int) < S.to := by omega
      have HN : Hid (SuTo w b gc tv { S with st := 1, cs := raise S.cs S.fr S.to } (starts (startsOf S.cs S.fr S.to)) (.returned lv) wr) := by
        by_cases e : S.fr < i
        · obtain rfl : i = S.to := by have := HR.out.2 e; omega
          exact Lib.hid hR.to
        · obtain rfl : i = S.fr := by omega
          have h2 := hR.to
          rw [raise_same (Nat.le_refl _), startsOf_zero (Nat.le_refl _)] at h2
          rw [raise_same (by omega), startsOf_zero (by omega)]
          exact Lib.hid h2
      clear hR HR
      go_wp2_with fail
      go_ret
      exact HN.out
theorem lastUp_step {cs : List Kd} {a n : Nat} (h : ¬ n < a) : lastUp cs a (n + 1) = if upAt cs n then some n else lastUp cs a n := by
  rw [lastUp, if_neg h]
theorem lastUp_end {cs : List Kd} {a n : Nat} (h : ¬ a < n) : lastUp cs a n = none := by
  cases n with
  | zero => rfl
  | succ n => rw [lastUp, if_pos (by omega)]
set_option maxHeartbeats 1000000 in
theorem turn_any (h : SuAt w b gc tv S) (hl : S.cs.length ≤ 32) (hto : S.to ≤ S.cs.length) (hfr : S.fr ≤ 32) (hth : S.th = 1 ∨ S.th = 2) (now : Nat) :
    Calls Try.prog 38 #[.pointer (some ⟨b, 0, none⟩), .int .i64 (now : Nat)] w (SuTo w b gc tv (turnS S now) (turnA S)) := by
  have c1 := h.c1
  have c6 := h.c6
  have c7 := h.c7
  have c8 := h.c8
  have HH := Lib.hid h
  clear h
  go_enter Try.func38, Try.ntmps38
  go_wp2_with fail
  go_loopg [5] S.to (fun gk s5 wr => ∃ (n : Nat), n ≤ S.to ∧ gk = n ∧ s5 = .int .i64 ((n : Int) - 1) ∧ wr = w ∧ Hid (lastUp S.cs S.fr n = lastUp S.cs S.fr S.to))
  case atStart => exact ⟨S.to, Nat.le_refl _, rfl, rfl, rfl, Lib.hid rfl⟩
  case round =>
    obtain ⟨n, hn, hg, rfl, hw, HL⟩ := hrel
    obtain rfl := hg.symm
    obtain rfl := hw.symm
    by_cases hlt : S.fr < n
    · obtain ⟨m, rfl⟩ : ∃ m, n = m + 1 := ⟨n - 1, by omega⟩
      have hm : ((m + 1 : Nat) : Int) - 1 = (m : Int) := by omega
      simp only [hm]
      have hge : (S.fr : Int) ≤ (m : Int) := by omega
      have hml : m < S.cs.length := by omega
      have hmi : (m : Int) < S.cs.length := by omega
      obtain ⟨k, hk⟩ : ∃ k, S.cs[m]? = some k := ⟨_, List.getElem?_eq_getElem hml⟩
      have k2 := HH.out.k2 hk
      have hst := lastUp_step (cs := S.cs) (a := S.fr) (n := m) (by omega)
      rw [upAt_of hk] at hst
      by_cases hu : k.u = true
      · rw [hu, if_pos rfl] at hst
        have hHL := HL.out
        rw [hst] at hHL
        have HC := Lib.hid (halt_any HH.out hk hl now)
        rw [show haltS S m now = turnS S now by unfold turnS; rw [← hHL], show haltA S m = turnA S by unfold turnA; rw [← hHL]] at HC
        rw [hu] at k2
        clear hst hHL HL hk hu hm
        go_wp2_with fail
        refine HC.out.mono ?_
        rintro e w2 ht
        obtain ⟨v, rfl, -⟩ := id ht
        have HT := Lib.hid ht
        clear ht HC
        go_wp2_with fail
        go_ret
        exact HT.out
      · have hu2 : k.u = false := by simpa using hu
        rw [hu2] at hst
        have hst2 : lastUp S.cs S.fr (m + 1) = lastUp S.cs S.fr m := hst
        have HL2 : Hid (lastUp S.cs S.fr m = lastUp S.cs S.fr S.to) := Lib.hid (hst2.symm.trans HL.out)
        rw [hu2] at k2
        clear hst hst2 HL hk hu hu2 hm
        go_wp2_with fail
        go_roundg m
        case measure => omega
        case rel => exact ⟨m, by omega, rfl, rfl, rfl, HL2⟩
    · have hnl : ¬ (S.fr : Int) ≤ (n : Int) - 1 := by omega
      have hnone : lastUp S.cs S.fr S.to = none := HL.out.symm.trans (lastUp_end hlt)
      have e1 : turnS S now = thenS S := by unfold turnS; rw [hnone]
      have e2 : turnA S = thenA S := by unfold turnA; rw [hnone]
      rcases hth with h1 | h1
      · have HC := Lib.hid (startAgain_any HH.out hl hto hfr)
        have HE : Hid (turnS S now = { S with st := 1, cs := raise S.cs S.fr S.to } ∧ turnA S = starts (startsOf S.cs S.fr S.to)) := by
          rw [e1, e2]; unfold thenS thenA; rw [if_pos h1, if_pos h1]; exact Lib.hid ⟨rfl, rfl⟩
        rw [h1] at c8
        have c8' : w.cell? ⟨b, 8, none⟩ = some (.func (.func 53) #[.pointer (some ⟨b, 0, none⟩)] #[]) := c8
        clear hnone e1 e2 h1 c8 HL
        go_wp2_with fail
        refine HC.out.mono ?_
        rintro e w2 ht
        obtain ⟨v, rfl, -⟩ := id ht
        have HT : Hid (SuTo w b gc tv (turnS S now) (turnA S) (.returned v) w2) := by rw [HE.out.1, HE.out.2]; exact Lib.hid ht
        clear ht HC HE
        go_wp2_with fail
        go_ret
        exact HT.out
      · have HC := Lib.hid (exit_any HH.out)
        have HE : Hid (turnS S now = { S with st := 3 } ∧ turnA S = [(4, 0)]) := by
          rw [e1, e2]; unfold thenS thenA; rw [if_neg (by omega), if_neg (by omega)]; exact Lib.hid ⟨rfl, rfl⟩
        rw [h1] at c8
        have c8' : w.cell? ⟨b, 8, none⟩ = some (.func (.func 52) #[.pointer (some ⟨b, 0, none⟩)] #[]) := c8
        clear hnone e1 e2 h1 c8 HL
        go_wp2_with fail
        refine HC.out.mono ?_
        rintro e w2 ht
        obtain ⟨v, rfl, -⟩ := id ht
        have HT : Hid (SuTo w b gc tv (turnS S now) (turnA S) (.returned v) w2) := by rw [HE.out.1, HE.out.2]; exact Lib.hid ht
        clear ht HC HE
        go_wp2_with fail
        go_ret
        exact HT.out
end
end Go.Proofs.Ytbdogiblndlimaa
