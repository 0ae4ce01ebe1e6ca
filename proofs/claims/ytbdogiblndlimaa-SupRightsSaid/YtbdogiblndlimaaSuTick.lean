/- A supervisor's Tick and Up; rows of acts, of numbers, compared. -/
import Derived.Test.YtbdogiblndlimaaSuDown
namespace Go.Proofs.Ytbdogiblndlimaa
open Go.RowKit
set_option linter.unusedVariables false

section
variable {w w' : World} {b gc i c : Nat} {tv : Value} {S S' : Su} {k : Kd} {A : Acts} {now : Nat} {e : Ending}
set_option maxHeartbeats 2000000 in
theorem tick_any (h : SuAt w b gc tv S) (hok : SuOk S now) (hnow : now ≤ 4611686018427387904) : Calls Try.prog 15 #[.pointer (some ⟨b, 0, none⟩), .int .i64 (now : Nat)] w (SuTo w b gc tv (tickS S now) (tickA S now)) := by
  have hl := hok.b.len
  have c5 := h.c5
  by_cases h2 : S.st = 2
  · rw [h2] at c5
    have c11 := h.c11
    obtain ⟨hb1, hb2, hb3⟩ := hok.busy h2
    by_cases hd : S.kd = true
    · have e1 : lateB S now = false := by unfold lateB; rw [hd]; simp
      have e2 : tickS S now = S := by unfold tickS; rw [e1]; rfl
      have e3 : tickA S now = [] := by unfold tickA; rw [e1]; rfl
      rw [e2, e3]
      rw [hd] at c11
      have HR : Hid (∀ n, SuTo w b gc tv S [] (.returned (.slice none 0 0)) (w.drewN n)) := Lib.hid fun n => ⟨_, rfl, h.same (su_kpN (Kp.refl _ w) n), ownsS_nil _ _ _, (fun g hg => by cases hg), su_kpN (Kp.refl _ w) n⟩
      clear h hok h2 hb1 hb2 hb3 hd e1 e2 e3
      go_enter Try.func15, Try.ntmps15
      go_wp2_with fail
      go_quiet (fail)
      go_wp2_with fail
      go_ret
      exact HR.out _
    · have hd2 : S.kd = false := by simpa using hd
      rw [hd2] at c11
      have c1 := h.c1
      have c9 := h.c9
      have c10 := h.c10
      obtain ⟨k, hk⟩ : ∃ k, S.cs[S.hl]? = some k := ⟨_, List.getElem?_eq_getElem hb1⟩
      have k1 := h.k1 hk
      have ht0 := hb3 hd2
      rw [tAt_of hk] at ht0
      have ht1 := (hok.b.kind _ _ hk).2.2
      obtain ⟨t, ht⟩ : ∃ t : Nat, k.t = t := ⟨k.t.toNat, by omega⟩
      rw [ht] at k1 ht0 ht1
      obtain ⟨d, hdd⟩ : ∃ d, now - S.si = d := ⟨_, rfl⟩
      have hsi := hok.b.si
      have HE := Lib.hid (fun n => elapsed_q (w.drewN n) S.si now (by omega) hnow)
      rw [hdd] at HE
      have hli : (S.hl : Int) < S.cs.length := by omega
      by_cases hlt : d ≤ t
      · have e1 : lateB S now = false := by unfold lateB; rw [tAt_of hk, ht, hdd]; simp; omega
        have e2 : tickS S now = S := by unfold tickS; rw [e1]; rfl
        have e3 : tickA S now = [] := by unfold tickA; rw [e1]; rfl
        rw [e2, e3]
        have HR : Hid (∀ n, SuTo w b gc tv S [] (.returned (.slice none 0 0)) (w.drewN n)) := Lib.hid fun n => ⟨_, rfl, h.same (su_kpN (Kp.refl _ w) n), ownsS_nil _ _ _, (fun g hg => by cases hg), su_kpN (Kp.refl _ w) n⟩
        have u1 : decide (d ≤ t) = true := by simpa using hlt
        have u2 : decide ((d : Int) ≤ (t : Int)) = true := by simpa using hlt
        clear h hok h2 hb2 hb3 hd e1 e2 e3 hk ht hdd hd2
        go_enter Try.func15, Try.ntmps15
        go_wp2_with fail
        go_quiet ((go_at_call 39; exact Calls.quiet_of_same (HE.out _)))
        go_wp2_with fail
        go_ret
        exact HR.out _
      · have e1 : lateB S now = true := by unfold lateB; rw [tAt_of hk, ht, hdd, h2, hd2]; simp; omega
        have e2 : tickS S now = { S with kd := true } := by unfold tickS; rw [e1]; rfl
        have e3 : tickA S now = [(3, ((S.hl : Nat) : Int))] := by unfold tickA; rw [e1]; rfl
        rw [e2, e3]
        have HK : Hid (∀ n, Calls Try.prog 40 #[.pointer (some ⟨b, 0, none⟩)] (w.drewN n) (SuTo w b gc tv { S with kd := true } [(3, ((S.hl : Nat) : Int))])) :=
          Lib.hid fun n => (kill_any (h.same (su_kpN (Kp.refl _ w) n))).mono fun e w' hx => by
            obtain ⟨v, x1, x2, x3, x4, x5⟩ := hx
            exact ⟨v, x1, x2, x3, x4, (su_kpN (Kp.refl _ w) n).trans' x5⟩
        have u1 : decide (d ≤ t) = false := by simpa using hlt
        have u2 : decide ((d : Int) ≤ (t : Int)) = false := by simpa using hlt
        clear h hok h2 hb2 hb3 hd e1 e2 e3 hk ht hdd hd2
        go_enter Try.func15, Try.ntmps15
        go_wp2_with fail
        go_quiet ((go_at_call 39; exact Calls.quiet_of_same (HE.out _)))
        go_wp2_with fail
        refine (HK.out _).mono ?_
        rintro e w' hx
        obtain ⟨v, rfl, -⟩ := id hx
        have HR := Lib.hid hx
        clear hx HK HE
        go_wp2_with fail
        go_ret
        exact HR.out
  · have e0 : ((S.st : Int) != 2) = true := by simp; omega
    have e1 : lateB S now = false := by unfold lateB; simp [h2]
    have e2 : tickS S now = S := by unfold tickS; rw [e1]; rfl
    have e3 : tickA S now = [] := by unfold tickA; rw [e1]; rfl
    rw [e2, e3]
    have HR : Hid (∀ n, SuTo w b gc tv S [] (.returned (.slice none 0 0)) (w.drewN n)) := Lib.hid fun n => ⟨_, rfl, h.same (su_kpN (Kp.refl _ w) n), ownsS_nil _ _ _, (fun g hg => by cases hg), su_kpN (Kp.refl _ w) n⟩
    clear h hok h2 e1 e2 e3
    go_enter Try.func15, Try.ntmps15
    go_wp2_with fail
    go_quiet (fail)
    go_wp2_with fail
    go_ret
    exact HR.out _
/-- the numbers of those that are up -/
def upsI (cs : List Kd) (n : Nat) : List Int := ((List.range n).filter fun i => upAt cs i).map fun i => ((i : Nat) : Int)
theorem upsI_succ {cs : List Kd} {n : Nat} : upsI cs (n + 1) = upsI cs n ++ (if upAt cs n then [((n : Nat) : Int)] else []) := by
  unfold upsI
  rw [List.range_succ, List.filter_append, List.map_append]
  congr 1
  by_cases e : upAt cs n = true <;> simp [e]
theorem upsI_len {cs : List Kd} {n : Nat} : (upsI cs n).length ≤ n := by
  unfold upsI
  rw [List.length_map]
  have := List.length_filter_le (fun i => upAt cs i) (List.range n)
  rw [List.length_range] at this
  exact this
/-- a new row of numbers -/
def NewInts (w : World) (l : List Int) (e : Ending) (w' : World) : Prop := ∃ v, e = .returned v ∧ w'.ownsS 3 1 v l.length (inC l) ∧ (∀ g, v.ownBlock = some g → w.heap.size ≤ g) ∧ Kp (fun _ => False) w w'
set_option maxHeartbeats 2000000 in
theorem up_any (h : SuAt w b gc tv S) (hl : S.cs.length ≤ 32) : Calls Try.prog 19 #[.pointer (some ⟨b, 0, none⟩)] w (NewInts w (upsI S.cs S.cs.length)) := by
  have c1 := h.c1
  have HH := Lib.hid h
  clear h
  go_enter Try.func19, Try.ntmps19
  go_wp2_with fail
  clear c1
  go_loopg [3, 4, 10] S.cs.length (fun gk s3 s4 s10 wr => ∃ (i : Nat) (lv y : Value), i ≤ S.cs.length ∧ gk = S.cs.length - i ∧ s3 = lv ∧ s4 = y ∧ s10 = .int .i64 (i : Nat) ∧ Hid (wr.ownsS 3 1 lv (upsI S.cs i).length (inC (upsI S.cs i)) ∧ (∀ g, lv.ownBlock = some g → w.heap.size ≤ g) ∧ Kp (fun _ => False) w wr))
  case atStart => exact ⟨0, _, _, by omega, rfl, rfl, rfl, rfl, Lib.hid ⟨ownsS_nil _ _ _, (fun g hg => by cases hg), Kp.refl _ w⟩⟩
  case round =>
    obtain ⟨i, lv, y, hi, rfl, hlv, hy, rfl, HR⟩ := hrel
    obtain rfl := hlv.symm
    obtain rfl := hy.symm
    by_cases hlt : i < S.cs.length
    · obtain ⟨hr, hn, hk0⟩ := HR.out
      have hii : (i : Int) < S.cs.length := by omega
      obtain ⟨k, hk⟩ : ∃ k, S.cs[i]? = some k := ⟨_, List.getElem?_eq_getElem hlt⟩
      have HC := Lib.hid (isUp_yes (HH.out.same hk0) hk hl)
      have hsu := upsI_succ (cs := S.cs) (n := i)
      rw [upAt_of hk] at hsu
      have hul := @upsI_len S.cs i
      obtain ⟨u, hu⟩ : ∃ u, k.u = u := ⟨_, rfl⟩
      rw [hu] at HC hsu
      cases u with
      | true =>
        rw [if_pos rfl] at hsu
        have hka : Kp (fun _ => False) wr (wr.alloc (.cells #[.int .i64 (i : Nat)] 3)) := (Kp.refl _ wr).alloc _
        obtain ⟨v', w3, e1, e2, e3, e4⟩ := inC_push (p := ((i : Nat) : Int)) (hka.rowS hr fun _ _ e => e) (heap_alloc_new wr _) (by omega)
        have HR3 := Lib.hid e1
        have HN : Hid (w3.ownsS 3 1 v' (upsI S.cs (i + 1)).length (inC (upsI S.cs (i + 1))) ∧ (∀ g, v'.ownBlock = some g → w.heap.size ≤ g) ∧ Kp (fun _ => False) w w3) := by
          rw [hsu]
          have hz := hk0.size
          refine Lib.hid ⟨e2, fun g hg => ?_, (hk0.trans' hka).trans (e3.mono fun q hq e => .inr ⟨hn q e, hq⟩)⟩
          rcases e4 g hg with e | e
          · exact hn g e
          · simp at e; omega
        clear hr hn hk0 HR hk hsu hu e1 e2 e3 e4 hka hul
        go_wp2_with fail
        refine HC.out.mono ?_
        rintro e w' ⟨rfl, rfl⟩
        clear HC
        go_wp2_with (at_builtin; refine wpList_run rfl _ _ 43 rfl lv (.slice (some ⟨wr.heap.size, 0, none⟩) 1 1) rfl rfl _ w3 HR3.out ?_)
        go_roundg (S.cs.length - (i + 1))
        case measure => omega
        case rel => exact ⟨i + 1, _, _, by omega, rfl, rfl, rfl, by go_num, HN⟩
      | false =>
        have hs2 : upsI S.cs (i + 1) = upsI S.cs i := by rw [hsu]; simp
        have HN : Hid (wr.ownsS 3 1 lv (upsI S.cs (i + 1)).length (inC (upsI S.cs (i + 1))) ∧ (∀ g, lv.ownBlock = some g → w.heap.size ≤ g) ∧ Kp (fun _ => False) w wr) := by
          rw [hs2]; exact Lib.hid ⟨hr, hn, hk0⟩
        clear hr hn hk0 HR hk hsu hu hul hs2
        go_wp2_with fail
        refine HC.out.mono ?_
        rintro e w' ⟨rfl, rfl⟩
        clear HC
        go_wp2_with fail
        go_roundg (S.cs.length - (i + 1))
        case measure => omega
        case rel => exact ⟨i + 1, _, _, by omega, rfl, rfl, rfl, by go_num, HN⟩
    · obtain rfl : i = S.cs.length := by omega
      have HN : Hid (NewInts w (upsI S.cs S.cs.length) (.returned lv) wr) := Lib.hid ⟨lv, rfl, HR.out⟩
      clear HR
      go_wp2_with fail
      go_ret
      exact HN.out
end
end Go.Proofs.Ytbdogiblndlimaa
