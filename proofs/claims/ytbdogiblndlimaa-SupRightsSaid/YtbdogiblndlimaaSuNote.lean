/- A restart is noted: are there too many? A restart's plan. -/
import Derived.Test.YtbdogiblndlimaaSuSmall
import Derived.Test.YtbdogiblndlimaaSuIns
import Derived.Deep.RegionHeld3
import Derived.StillTailTactics
namespace Go.Proofs.Ytbdogiblndlimaa
open Go.RowKit
set_option linter.unusedVariables false

section
variable {w w' : World} {b gc i : Nat} {tv : Value} {S S' : Su} {k : Kd} {A : Acts}
set_option maxHeartbeats 1000000 in
theorem again_any (h : SuAt w b gc tv S) (hl : S.cs.length ≤ 32) (hi : i ≤ 32) (hsg : S.sg = 1 ∨ S.sg = 2 ∨ S.sg = 3) : Calls Try.prog 37 #[.pointer (some ⟨b, 0, none⟩), .int .i64 (i : Nat)] w (SuQ w b gc tv (againS S i)) := by
  have c0 := h.c0
  have c1 := h.c1
  have c6 := h.c6
  have c7 := h.c7
  have c8 := h.c8
  have hfz := h.fz
  have h1 := h.put (S' := { S with fr := 0 }) 6 (.int .i64 0) rfl rfl rfl
  have h2 := h1.put (S' := { S with fr := 0, to := S.cs.length }) 7 (.int .i64 (S.cs.length : Nat)) rfl rfl rfl
  have h3 := h2.put (S' := { S with fr := 0, to := S.cs.length, th := 1 }) 8 (.func (.func 53) #[.pointer (some ⟨b, 0, none⟩)] #[]) rfl rfl rfl
  have hk3 := ((((Kp.refl (fun q => q = b) w).setCell ⟨b, 6, none⟩ (.int .i64 0) (.inl rfl)).setCell ⟨b, 7, none⟩ (.int .i64 (S.cs.length : Nat)) (.inl rfl)).setCell ⟨b, 8, none⟩ (.func (.func 53) #[.pointer (some ⟨b, 0, none⟩)] #[]) (.inl rfl))
  have hmf : ∀ (fn : Fn) (first cap : Array Value) (w : World), (Instr.makeFunc fn first cap).run Try.prog w = .ok (.func fn first cap) w := fun _ _ _ _ => rfl
  rcases hsg with hs | hs | hs
  · have h4 := h3.put (S' := { S with fr := 0, to := i + 1, th := 1 }) 7 (.int .i64 ((i : Int) + 1)) rfl rfl rfl
    have h5 := h4.put (S' := { S with fr := i, to := i + 1, th := 1 }) 6 (.int .i64 (i : Nat)) rfl rfl rfl
    have e1 : againS S i = { S with fr := i, to := i + 1, th := 1 } := by
      unfold againS; rw [if_pos (.inl hs), if_pos hs]
    rw [← e1] at h5
    have HE := Lib.hid h5
    have HK := Lib.hid ((hk3.setCell ⟨b, 7, none⟩ (.int .i64 ((i : Int) + 1)) (.inl rfl)).setCell ⟨b, 6, none⟩ (.int .i64 (i : Nat)) (.inl rfl))
    rw [hs] at c0
    clear h h1 h2 h3 h4 h5 hk3 hs e1
    go_enter Try.func37, Try.ntmps37
    go_wp2_with fail
    refine bodyPost_end (results_none rfl _ _ _) rfl ?_
    exact ⟨rfl, HE.out, HK.out⟩
  · have e1 : againS S i = { S with fr := 0, to := S.cs.length, th := 1 } := by
      unfold againS; rw [if_neg (by omega), if_neg (by omega)]
    rw [← e1] at h3
    have HE := Lib.hid h3
    have HK := Lib.hid hk3
    rw [hs] at c0
    clear h h1 h2 h3 hk3 hs e1
    go_enter Try.func37, Try.ntmps37
    go_wp2_with fail
    refine bodyPost_end (results_none rfl _ _ _) rfl ?_
    exact ⟨rfl, HE.out, HK.out⟩
  · have h5 := h3.put (S' := { S with fr := i, to := S.cs.length, th := 1 }) 6 (.int .i64 (i : Nat)) rfl rfl rfl
    have e1 : againS S i = { S with fr := i, to := S.cs.length, th := 1 } := by
      unfold againS; rw [if_pos (.inr hs), if_neg (by omega)]
    rw [← e1] at h5
    have HE := Lib.hid h5
    have HK := Lib.hid (hk3.setCell ⟨b, 6, none⟩ (.int .i64 (i : Nat)) (.inl rfl))
    rw [hs] at c0
    clear h h1 h2 h3 h5 hk3 hs e1
    go_enter Try.func37, Try.ntmps37
    go_wp2_with fail
    refine bodyPost_end (results_none rfl _ _ _) rfl ?_
    exact ⟨rfl, HE.out, HK.out⟩
set_option maxHeartbeats 1000000 in
theorem elapsed_any (w : World) (x y : Nat) (hx : x ≤ 4611686018427387904) (hy : y ≤ 4611686018427387904) : Calls Try.prog 39 #[.int .i64 (x : Nat), .int .i64 (y : Nat)] w fun e w' => e = .returned (.int .u64 ((y - x : Nat) : Int)) ∧ w = w' := by
  by_cases hle : y ≤ x
  · have h1 : (y : Int) ≤ (x : Int) := by omega
    have HE : Hid (((y - x : Nat) : Int) = 0) := Lib.hid (by omega)
    go_enter Try.func39, Try.ntmps39
    go_wp2_with fail
    go_ret
    exact ⟨by rw [HE.out]; rfl, rfl⟩
  · have h1 : ¬ (y : Int) ≤ (x : Int) := by omega
    have HE : Hid (((y - x : Nat) : Int) = (y : Int) - (x : Int)) := Lib.hid (by omega)
    go_enter Try.func39, Try.ntmps39
    go_wp2_with fail
    go_ret
    exact ⟨by rw [HE.out]; rfl, rfl⟩
theorem su_kpN {F : Nat → Prop} {w w' : World} (h : Kp F w w') (k : Nat) : Kp F w (w'.drewN k) := ⟨h.os, h.tape, h.output, h.size, h.block⟩
theorem elapsed_q (w : World) (x y : Nat) (hx : x ≤ 4611686018427387904) (hy : y ≤ 4611686018427387904) : Calls Try.prog 39 #[.int .i64 (x : Nat), .int .i64 (y : Nat)] w fun e w' => e = .returned (.int .u64 ((y - x : Nat) : Int)) ∧ w' = w :=
  (elapsed_any w x y hx hy).mono fun e w' h => ⟨h.1, h.2.symm⟩
theorem TmAt.bs (h : TmAt w tv S.ts) {now : Nat} (hl : S.ts.length ≤ 1001) (hso : S.ts.Pairwise fun x y => x ≤ y) (hn : ∀ x ∈ S.ts, x ≤ now) :
    Calls Try.prog 50 #[tv, .int .i64 (now : Nat)] w fun e w' => ∃ (p : Nat) (f : Bool), e = .returned (.tuple #[.int .i64 (p : Nat), .bool f]) ∧ (p ≤ S.ts.length ∧ ∀ i x, p ≤ i → S.ts[i]? = some x → x = now) ∧ Kp (fun _ => False) w w' := by
  rcases h with ⟨rfl, e⟩ | ⟨g, off, cap, cur, rfl, hg, hlc, hoc, hcm, hcur⟩
  · refine (Try.slices_BinarySearch_int_empty none 0 (now : Nat) w).mono ?_
    rintro e w' ⟨rfl, rfl⟩
    refine ⟨0, false, rfl, ⟨Nat.zero_le _, fun i x _ hx => ?_⟩, Kp.refl _ _⟩
    rw [e] at hx
    simp at hx
  · have hzl := zsOf_len S.ts
    have htk : (zsOf S.ts).take S.ts.length = zsOf S.ts := List.take_of_length_le (by omega)
    refine (Try.slices_BinarySearch_int g off S.ts.length cap (zsOf S.ts) (now : Nat) w (by omega) (by omega) (fun j hj => ?_) ?_).mono ?_
    · rw [hzl] at hj
      rw [cell_of_row _ _ _ _ _ _ hg, hcur j S.ts[j] (List.getElem?_eq_getElem hj)]
      simp [zsOf, hj]
    · rw [htk]
      unfold zsOf
      rw [List.pairwise_map]
      exact hso.imp fun h => by omega
    · rintro e w' ⟨rfl, q, rfl⟩
      rw [htk]
      refine ⟨_, _, rfl, ⟨?_, count_spot now S.ts hso hn⟩, su_kpN (Kp.refl _ w) q⟩
      have := List.countP_le_length (p := fun x : Int => decide (x < (now : Int))) (l := zsOf S.ts)
      omega
/-- notes and all -/
def NoteTo (w : World) (b gc : Nat) (tv : Value) (S : Su) (now : Nat) (e : Ending) (w' : World) : Prop :=
  e = .returned (.bool (noteB S.m S.tt S.ts now)) ∧ ∃ tv', SuAt w' b gc tv' { S with ts := noteTs S.m S.tt S.ts now } ∧ (∀ g, tv'.ownBlock = some g → tv.ownBlock = some g ∨ w.heap.size ≤ g) ∧ Kp (fun q => q = b ∨ tv.ownBlock = some q) w w'
theorem SuAt.putT {tv' : Value} {ts : List Nat} (h : SuAt w b gc tv S) (ht : TmAt w tv' ts) : SuAt (w.setCell ⟨b, 4, none⟩ tv') b gc tv' { S with ts := ts } := by
  have hbg := h.bg
  refine ⟨by rw [su_heap_set h.head tv']; rfl, ?_, ?_⟩
  · rw [Below.heap_setCell _ _ _ _ (fun e => hbg e.symm)]
    exact h.kids
  · refine ht.kp (F := fun q => q = b) ((Kp.refl _ w).setCell _ _ (.inl rfl)) fun g hg e => ?_
    obtain ⟨cur, h2⟩ := ht.block g hg
    rw [e, h.head] at h2
    injection h2 with h2
    injection h2 with _ h2
    exact absurd h2 (by decide)
theorem SuAt.swapT {tv' : Value} {ts : List Nat} {w2 : World} (h : SuAt w b gc tv S) (hk : Kp (fun q => tv.ownBlock = some q) w w2) (ht : TmAt w2 tv' ts) : SuAt (w2.setCell ⟨b, 4, none⟩ tv') b gc tv' { S with ts := ts } := by
  have hbg := h.bg
  have h1 := (hk.block b h.lt.1 (fun e => (h.bt b e).1 rfl)).trans h.head
  have h2 := (hk.block gc h.lt.2 (fun e => (h.bt gc e).2 rfl)).trans h.kids
  refine ⟨by rw [su_heap_set h1 tv']; rfl, ?_, ?_⟩
  · rw [Below.heap_setCell _ _ _ _ (fun e => hbg e.symm)]
    exact h2
  · refine ht.kp (F := fun q => q = b) ((Kp.refl _ w2).setCell _ _ (.inl rfl)) fun g hg e => ?_
    obtain ⟨cur, h3⟩ := ht.block g hg
    rw [e, h1] at h3
    injection h3 with h3
    injection h3 with _ h3
    exact absurd h3 (by decide)
/-- the first one is left out -/
theorem TmAt.tail {g off n cap : Nat} {ts : List Nat} (h : TmAt w (.slice (some ⟨g, off, none⟩) n cap) ts) (hn : n = ts.length) (h2 : 2 ≤ n) : TmAt w (.slice (some ⟨g, off + 1, none⟩) (n - 1) (cap - 1)) ts.tail := by
  subst hn
  rcases h with ⟨e, _⟩ | ⟨g', off', cap', cur, e, hg, hlc, hoc, hcm, hcur⟩
  · cases e
  · injection e with e1 _ e2
    injection e1 with e1
    injection e1 with e1 e3
    subst e1 e2 e3
    refine .inr ⟨g, off + 1, cap - 1, cur, by rw [List.length_tail], hg, by rw [List.length_tail]; omega, by omega, by omega, fun i x hi => ?_⟩
    rw [show off + 1 + i = off + (i + 1) by omega]
    refine hcur (i + 1) x ?_
    rw [← hi, List.getElem?_tail]
set_option maxHeartbeats 2000000 in
theorem note_any (h : SuAt w b gc tv S) (hl : S.ts.length ≤ S.m) (hm : S.m ≤ 1000) (htt : S.tt ≤ 10000) (htt1 : 1 ≤ S.tt) (hso : S.ts.Pairwise fun x y => x ≤ y) {now : Nat} (hn : ∀ x ∈ S.ts, x ≤ now) (hnow : now ≤ 4611686018427387904) :
    Calls Try.prog 35 #[.pointer (some ⟨b, 2, none⟩), .int .i64 (now : Nat)] w (NoteTo w b gc tv S now) := by
  have c4 := h.c4
  have HB := Lib.hid (h.tim.bs (now := now) (by omega) hso hn)
  obtain ⟨po, cap, htv, -, -⟩ := h.tim.form
  have HH := Lib.hid h
  have hbt := h.bt
  have hlt := h.lt
  have Htl := Lib.hid h.tim.lt
  have HP := Lib.hid (And.intro hl (And.intro hso (And.intro hn hbt)))
  clear h hso hn hl hbt
  subst htv
  go_enter Try.func35, Try.ntmps35
  go_wp2_with fail
  refine HB.out.mono ?_
  rintro e w1 ⟨p, f, rfl, ⟨hp, hsp⟩, hk1⟩
  have h1 := HH.out.same hk1
  have c4b := h1.c4
  have HI := Lib.hid (insert_any h1.tim (now := now) (p := p) (by have := HP.out.1; omega) hp hsp)
  have HX := Lib.hid (And.intro hk1 (And.intro hp hsp))
  have hfz1 := h1.fz
  clear hk1 hp hsp h1 HB
  go_wp2_with fail
  refine HI.out.mono ?_
  rintro e w2 ⟨tv2, rfl, ht2, hat2, hk2⟩
  have hk1 := HX.out.1
  have h3 := HH.out.swapT ((hk1.mono fun _ _ e => e.elim).trans' hk2) ht2
  have hk3 : Kp (fun q => q = b ∨ Value.ownBlock (.slice po S.ts.length cap) = some q) w (w2.setCell ⟨b, 4, none⟩ tv2) :=
    (((hk1.mono fun _ _ e => e.elim).trans' hk2).mono fun q _ e => .inr e).setCell _ _ (.inl (.inl rfl))
  have c4c := (HH.out.same hk1).c4
  have hc4 : w2.cell? ⟨b, 4, none⟩ = some (.slice po S.ts.length cap) := by
    rw [hk2.cell (p := ⟨b, 4, none⟩) (by have := hk1.size; have := HH.out.lt; show b < _; omega) (fun e => (HP.out.2.2.2 b e).1 rfl)]
    exact c4c
  have hfz2 : ∀ o, w2.frozen? ⟨b, o, none⟩ = false := fun o => by
    rw [hk2.frozen (p := ⟨b, o, none⟩) (by have := hk1.size; have := HH.out.lt; show b < _; omega) (fun e => (HP.out.2.2.2 b e).1 rfl)]
    exact hfz1 o
  have hz1 := hk1.size
  have hat3 : ∀ g, tv2.ownBlock = some g → Value.ownBlock (.slice po S.ts.length cap) = some g ∨ w.heap.size ≤ g := fun g hg => (hat2 g hg).imp id fun e => by omega
  obtain ⟨w3, hw3⟩ : ∃ w3, w2.setCell ⟨b, 4, none⟩ tv2 = w3 := ⟨_, rfl⟩
  rw [hw3] at h3 hk3
  obtain ⟨x0, hx0⟩ : ∃ x0, (S.ts ++ [now])[0]? = some x0 := ⟨_, List.getElem?_eq_getElem (by simp)⟩
  obtain ⟨g, off, cap2, htv2, hcell⟩ := h3.tim.get hx0
  have hlen : (S.ts ++ [now]).length = S.ts.length + 1 := by simp
  rw [hlen] at htv2
  subst htv2
  have c2 : w3.cell? ⟨b, 2, none⟩ = some (.int .i64 (S.m : Nat)) := h3.c2
  have c3 : w3.cell? ⟨b, 3, none⟩ = some (.int .i64 (S.tt : Nat)) := h3.c3
  have c4d : w3.cell? ⟨b, 4, none⟩ = some (.slice (some ⟨g, off, none⟩) (S.ts.length + 1) cap2) := h3.c4
  have hfz3 := h3.fz
  have hxn : x0 ≤ now := by
    have := List.mem_of_getElem? hx0
    rcases List.mem_append.1 this with e | e
    · exact HP.out.2.2.1 x0 e
    · simp at e; omega
  rw [Nat.add_zero] at hcell
  obtain ⟨n, hnn⟩ : ∃ n, S.ts.length = n := ⟨_, rfl⟩
  have HQ := Lib.hid (And.intro h3 (And.intro hk3 (And.intro hat3 (And.intro hx0 hnn))))
  have hnm : n ≤ S.m := by have := HP.out.1; omega
  rw [hnn] at c4d hc4 hw3
  rw [hnn]
  clear h3 hk3 hat3 hat2 hk2 ht2 hx0 hnn HX HI c4c hk1 hlen c4 c4b hz1
  go_wp2_with fail
  clear hw3 hc4 hfz2 hfz1 hfz3
  by_cases hnlt : n < S.m
  · have t1 : decide (n + 1 ≤ S.m) = true := by simp; omega
    have t2 : decide ((n : Int) + 1 ≤ (S.m : Int)) = true := by simp; omega
    go_quiet (fail)
    go_wp2_with fail
    go_ret
    obtain ⟨h3, hk3, hat3, hx0, hnn⟩ := HQ.out
    have e1 : noteB S.m S.tt S.ts now = false := by unfold noteB; rw [decide_eq_false]; omega
    have e2 : noteTs S.m S.tt S.ts now = S.ts ++ [now] := by unfold noteTs; rw [if_pos (by omega)]
    refine ⟨by rw [e1]; rfl, .slice (some ⟨g, off, none⟩) (S.ts.length + 1) cap2, ?_, hat3, su_kpN hk3 _⟩
    rw [e2]
    exact h3.same (su_kpN (Kp.refl _ w3) _)
  · have t1 : decide (n + 1 ≤ S.m) = false := by simp; omega
    have t2 : decide ((n : Int) + 1 ≤ (S.m : Int)) = false := by simp; omega
    have t3 : ¬ ((n : Int) + 1 ≤ (S.m : Int)) := by omega
    go_quiet (fail)
    go_wp2_with fail
    generalize hw4 : w3.drewN nq = w4
    have d3 : w4.cell? ⟨b, 3, none⟩ = some (.int .i64 (S.tt : Nat)) := by rw [← hw4]; exact c3
    have d4 : w4.cell? ⟨b, 4, none⟩ = some (.slice (some ⟨g, off, none⟩) (n + 1) cap2) := by rw [← hw4]; exact c4d
    have d5 : w4.cell? ⟨g, off, none⟩ = some (.int .i64 (x0 : Nat)) := by rw [← hw4]; exact hcell
    have dfz : ∀ o, w4.frozen? ⟨b, o, none⟩ = false := fun o => by rw [← hw4]; exact HQ.out.1.fz o
    have hK4 : Hid (Kp (fun _ => False) w3 w4) := Lib.hid (by rw [← hw4]; exact su_kpN (Kp.refl _ w3) _)
    clear hw4 c2 c3 c4d hcell t1 t2 t3
    have HE := Lib.hid (fun k => elapsed_q (w4.drewN k) x0 now (by omega) hnow)
    obtain ⟨d, hd⟩ : ∃ d, now - x0 = d := ⟨_, rfl⟩
    rw [hd] at HE
    have Hd := Lib.hid hd
    clear hd
    have hn0 : (0 : Int) < (n : Int) + 1 := by omega
    by_cases hdt : d < S.tt
    · have u1 : decide (d < S.tt) = true := by simpa using hdt
      have u2 : decide ((d : Int) < (S.tt : Int)) = true := by simpa using hdt
      go_quiet ((go_at_call 39; exact Calls.quiet_of_same (HE.out _)))
      go_wp2_with fail
      go_ret
      obtain ⟨h3, hk3, hat3, hx0, hnn⟩ := HQ.out
      have hh : (S.ts ++ [now]).headD 0 = x0 := by rw [List.headD_eq_head?_getD, List.head?_eq_getElem?, hx0]; rfl
      have e1 : noteB S.m S.tt S.ts now = true := by unfold noteB; rw [hh, decide_eq_true]; have := Hd.out; omega
      have e2 : noteTs S.m S.tt S.ts now = S.ts ++ [now] := by unfold noteTs; rw [hh, if_neg (by omega), if_pos (by have := Hd.out; omega)]
      refine ⟨by rw [e1]; rfl, .slice (some ⟨g, off, none⟩) (S.ts.length + 1) cap2, ?_, hat3, su_kpN (hk3.trans' (hK4.out.mono fun _ _ e => e.elim)) _⟩
      rw [e2]
      exact (h3.same hK4.out).same (su_kpN (Kp.refl _ w4) _)
    · have u1 : decide (d < S.tt) = false := by simpa using hdt
      have u2 : decide ((d : Int) < (S.tt : Int)) = false := by simpa using hdt
      have hn2 : 2 ≤ n + 1 := by
        obtain ⟨h3, hk3, hat3, hx0, hnn⟩ := HQ.out
        have := Hd.out
        cases n with
        | zero =>
          rw [List.getElem?_append_right (by omega)] at hx0
          simp [hnn] at hx0
          omega
        | succ n => omega
      have hcp : ¬ cap2 = 1 := by
        obtain ⟨po2, cp2, e, h5, h6⟩ := HQ.out.1.tim.form
        injection e with _ e1 e2
        have := HQ.out.2.2.2.2
        simp at h5
        omega
      have hcap : n + 1 ≤ cap2 ∧ cap2 ≤ 9223372036854775807 := by
        obtain ⟨po2, cp2, e, h5, h6⟩ := HQ.out.1.tim.form
        injection e with _ e1 e2
        have := HQ.out.2.2.2.2
        simp at h5
        omega
      obtain ⟨hcap1, hcap3⟩ := hcap
      go_quiet ((go_at_call 39; exact Calls.quiet_of_same (HE.out _)))
      go_wp2_with fail
      go_ret
      obtain ⟨h3, hk3, hat3, hx0, hnn⟩ := HQ.out
      have hh : (S.ts ++ [now]).headD 0 = x0 := by rw [List.headD_eq_head?_getD, List.head?_eq_getElem?, hx0]; rfl
      have e1 : noteB S.m S.tt S.ts now = false := by unfold noteB; rw [hh, decide_eq_false]; have := Hd.out; omega
      have e2 : noteTs S.m S.tt S.ts now = (S.ts ++ [now]).tail := by unfold noteTs; rw [hh, if_neg (by omega), if_neg (by have := Hd.out; omega)]
      have h4 := (h3.same hK4.out).same (su_kpN (Kp.refl (fun _ => False) w4) nq)
      have h5 := h4.tim.tail (by simp) (by omega)
      rw [hnn, Nat.add_sub_cancel] at h5
      refine ⟨by rw [e1]; rfl, .slice (some ⟨g, off + 1, none⟩) n (cap2 - 1), ?_, fun q hq => hat3 q hq, (su_kpN (hk3.trans' (hK4.out.mono fun _ _ e => e.elim)) nq).setCell _ _ (.inl (.inl rfl))⟩
      rw [e2]
      exact h4.putT h5
end
end Go.Proofs.Ytbdogiblndlimaa
