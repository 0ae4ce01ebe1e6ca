/- A supervisor beside the caller's own blocks. -/
import Derived.Test.YtbdogiblndlimaaSuNew
import Derived.Test.YtbdogiblndlimaaPlace
namespace Go.Proofs.Ytbdogiblndlimaa
open Go.RowKit
set_option linter.unusedVariables false

/-- a supervisor, newer than w0; C: blocks of the caller's -/
def SS (w0 : World) (C : Nat → Prop) (w : World) (b : Nat) (S : Su) : Prop :=
  ∃ gc tv, SuAt w b gc tv S ∧ (w0.heap.size ≤ b ∧ ¬ C b) ∧ (w0.heap.size ≤ gc ∧ ¬ C gc) ∧ (∀ g, tv.ownBlock = some g → w0.heap.size ≤ g ∧ ¬ C g) ∧ (∀ q, C q → q < w.heap.size) ∧ Kp (fun _ => False) w0 w
section
variable {C C' D : Nat → Prop} {w0 w w' : World} {b c : Nat} {S S' : Su} {A : Acts} {e : Ending} {now : Nat} {k : Kd} {v : Value}
theorem SS.kp0 (h : SS w0 C w b S) : Kp (fun _ => False) w0 w := by obtain ⟨_, _, _, _, _, _, _, h2⟩ := h; exact h2
theorem SS.clt (h : SS w0 C w b S) : ∀ q, C q → q < w.heap.size := by obtain ⟨_, _, _, _, _, _, h2, _⟩ := h; exact h2
theorem SS.sub (h : SS w0 C w b S) (hC : ∀ q, C' q → C q) : SS w0 C' w b S := by
  obtain ⟨gc, tv, h1, h2, h3, h4, h5, h6⟩ := h
  exact ⟨gc, tv, h1, ⟨h2.1, fun e => h2.2 (hC _ e)⟩, ⟨h3.1, fun e => h3.2 (hC _ e)⟩, fun g hg => ⟨(h4 g hg).1, fun e => (h4 g hg).2 (hC _ e)⟩, fun q hq => h5 q (hC q hq), h6⟩
/-- new blocks are the caller's -/
theorem SS.put (h : SS w0 C w b S) (hk : Kp (fun _ => False) w w') (hC : ∀ q, C' q → C q ∨ (w.heap.size ≤ q ∧ q < w'.heap.size)) : SS w0 C' w' b S := by
  obtain ⟨gc, tv, h1, h2, h3, h4, h5, h6⟩ := h
  have hz := hk.size
  have hlt := h1.lt
  refine ⟨gc, tv, h1.same hk, ⟨h2.1, fun e => ?_⟩, ⟨h3.1, fun e => ?_⟩, fun g hg => ⟨(h4 g hg).1, fun e => ?_⟩, fun q hq => ?_, h6.trans' hk⟩
  · rcases hC _ e with e2 | e2
    · exact h2.2 e2
    · omega
  · rcases hC _ e with e2 | e2
    · exact h3.2 e2
    · omega
  · have := h1.tim.lt g hg
    rcases hC _ e with e2 | e2
    · exact (h4 g hg).2 e2
    · omega
  · rcases hC q hq with e | e
    · have := h5 q e; omega
    · exact e.2
theorem SS.same (h : SS w0 C w b S) (hk : Kp (fun _ => False) w w') : SS w0 C w' b S := h.put hk fun _ e => .inl e
/-- the caller turns blocks of its own, and makes new ones -/
theorem SS.turn (h : SS w0 C w b S) (hk : Kp D w w') (hD : ∀ q, D q → C q ∧ w0.heap.size ≤ q) (hC : ∀ q, C' q → C q ∨ (w.heap.size ≤ q ∧ q < w'.heap.size)) : SS w0 C' w' b S := by
  obtain ⟨gc, tv, h1, h2, h3, h4, h5, h6⟩ := h
  have hz := hk.size
  have hlt := h1.lt
  refine ⟨gc, tv, h1.kp hk (fun e => h2.2 (hD _ e).1) (fun e => h3.2 (hD _ e).1) (fun g hg e => (h4 g hg).2 (hD _ e).1), ⟨h2.1, fun e => ?_⟩, ⟨h3.1, fun e => ?_⟩, fun g hg => ⟨(h4 g hg).1, fun e => ?_⟩, fun q hq => ?_, h6.trans (hk.mono fun q hq e => .inr ⟨(hD q e).2, hq⟩)⟩
  · rcases hC _ e with e2 | e2
    · exact h2.2 e2
    · omega
  · rcases hC _ e with e2 | e2
    · exact h3.2 e2
    · omega
  · have := h1.tim.lt g hg
    rcases hC _ e with e2 | e2
    · exact (h4 g hg).2 e2
    · omega
  · rcases hC q hq with e | e
    · have := h5 q e; omega
    · exact e.2
/-- acts, as a row of the caller's -/
def AcW (w : World) (v : Value) (A : Acts) : Prop := w.ownsS 40 2 v A.length (acC A)
/-- a call: what was said is a new row of the caller's -/
def SsTo (w0 : World) (C : Nat → Prop) (w : World) (b : Nat) (S' : Su) (A : Acts) (e : Ending) (w' : World) : Prop :=
  ∃ v, e = .returned v ∧ AcW w' v A ∧ (∀ g, v.ownBlock = some g → w.heap.size ≤ g ∧ g < w'.heap.size) ∧ SS w0 (fun q => C q ∨ v.ownBlock = some q) w' b S' ∧ Kp (fun q => ¬ C q) w w'
theorem SuTo2.ss {gc : Nat} {tv : Value} (ht : SuTo2 w b gc tv S' A e w') (h2 : w0.heap.size ≤ b ∧ ¬ C b) (h3 : w0.heap.size ≤ gc ∧ ¬ C gc) (h4 : ∀ g, tv.ownBlock = some g → w0.heap.size ≤ g ∧ ¬ C g) (h5 : ∀ q, C q → q < w.heap.size) (h6 : Kp (fun _ => False) w0 w) : SsTo w0 C w b S' A e w' := by
  obtain ⟨v, tv', rfl, x1, x2, x3, x4, x5⟩ := ht
  have hz := x5.size
  have hz6 := h6.size
  have hne := act_ne x1 x3
  have hlt := ownsS_lt x3
  refine ⟨v, rfl, x3, fun g hg => ⟨x4 g hg, hlt g hg⟩, ⟨gc, tv', x1, ⟨h2.1, fun e => ?_⟩, ⟨h3.1, fun e => ?_⟩, fun g hg => ⟨?_, fun e => ?_⟩, fun q hq => ?_, h6.trans (x5.mono fun q hq e => ?_)⟩, x5.mono fun q hq e => ?_⟩
  · rcases e with e | e
    · exact h2.2 e
    · exact (hne _ e).1 rfl
  · rcases e with e | e
    · exact h3.2 e
    · exact (hne _ e).2.1 rfl
  · rcases x2 g hg with e | e
    · exact (h4 g e).1
    · omega
  · rcases e with e | e
    · rcases x2 g hg with e2 | e2
      · exact (h4 g e2).2 e
      · have := h5 g e; omega
    · exact (hne _ e).2.2 hg
  · rcases hq with e | e
    · have := h5 q e; omega
    · exact hlt q e
  · rcases e with e | e | e
    · exact .inr ⟨by rw [e]; exact h2.1, hq⟩
    · exact .inr ⟨by rw [e]; exact h3.1, hq⟩
    · exact .inr ⟨(h4 q e).1, hq⟩
  · rcases e with e | e | e
    · rw [e]; exact h2.2
    · rw [e]; exact h3.2
    · exact (h4 q e).2
theorem SuTo.two {gc : Nat} {tv : Value} (h : SuTo w b gc tv S' A e w') : SuTo2 w b gc tv S' A e w' := h.to2 (Kp.refl _ w) fun g hg => .inl hg
theorem ss_begin (h : SS w0 C w b S) (hl : S.cs.length ≤ 32) : Calls Try.prog 13 #[.pointer (some ⟨b, 0, none⟩)] w (SsTo w0 C w b (beginS S) (beginA S)) := by
  obtain ⟨gc, tv, h1, h2, h3, h4, h5, h6⟩ := h
  exact (begin_any h1 hl).mono fun e w' ht => ht.two.ss h2 h3 h4 h5 h6
theorem ss_stop (h : SS w0 C w b S) (hok : SuOk S now) : Calls Try.prog 18 #[.pointer (some ⟨b, 0, none⟩), .int .i64 (now : Nat)] w (SsTo w0 C w b (stopS S now) (stopA S)) := by
  obtain ⟨gc, tv, h1, h2, h3, h4, h5, h6⟩ := h
  exact (stop_any h1 hok).mono fun e w' ht => ht.two.ss h2 h3 h4 h5 h6
theorem ss_tick (h : SS w0 C w b S) (hok : SuOk S now) (hnow : now ≤ 4611686018427387904) : Calls Try.prog 15 #[.pointer (some ⟨b, 0, none⟩), .int .i64 (now : Nat)] w (SsTo w0 C w b (tickS S now) (tickA S now)) := by
  obtain ⟨gc, tv, h1, h2, h3, h4, h5, h6⟩ := h
  exact (tick_any h1 hok hnow).mono fun e w' ht => ht.two.ss h2 h3 h4 h5 h6
theorem ss_down (h : SS w0 C w b S) (hok : SuOk S now) (hnow : now ≤ 4611686018427387904) (hu : upAt S.cs c = true) (normal : Bool) :
    Calls Try.prog 14 #[.pointer (some ⟨b, 0, none⟩), .int .i64 (c : Nat), .bool normal, .int .i64 (now : Nat)] w (SsTo w0 C w b (downS S c normal now) (downA S c normal now)) := by
  obtain ⟨gc, tv, h1, h2, h3, h4, h5, h6⟩ := h
  have hcl := upAt_lt hu
  obtain ⟨k, hk⟩ : ∃ k, S.cs[c]? = some k := ⟨_, List.getElem?_eq_getElem hcl⟩
  have hku : k.u = true := by rw [upAt_of hk] at hu; exact hu
  have key : Calls Try.prog 14 #[.pointer (some ⟨b, 0, none⟩), .int .i64 (c : Nat), .bool normal, .int .i64 (now : Nat)] w (SuTo2 w b gc tv (downS S c normal now) (downA S c normal now)) := by
    unfold downS downA
    by_cases s1 : S.st = 1
    · rw [if_pos s1, if_pos s1, rAt_of hk]
      by_cases ha : againB k.r normal = true
      · rw [if_pos ha, if_pos ha]
        exact down_again h1 hok hk hku normal s1 ha hnow
      · rw [if_neg ha, if_neg ha]
        exact down_quiet h1 hok hk hku normal (.inl ⟨s1, by simpa using ha⟩)
    · rw [if_neg s1, if_neg s1]
      by_cases s2 : S.st = 2 ∧ c = S.hl
      · rw [if_pos s2, if_pos s2]
        exact down_turn h1 hok hk hku normal s2.1 s2.2
      · rw [if_neg s2, if_neg s2]
        by_cases s3 : S.st = 2
        · exact down_quiet h1 hok hk hku normal (.inr ⟨s3, fun e => s2 ⟨s3, e⟩⟩)
        · have := hok.none (by have := hok.st; omega) c
          rw [this] at hu
          cases hu
  exact key.mono fun e w' ht => ht.ss h2 h3 h4 h5 h6
theorem ss_down_no (h : SS w0 C w b S) (x : Int) (hx : ∀ i : Nat, x = i → upAt S.cs i = false) (hl : S.cs.length ≤ 32) (normal : Bool) (now : Nat) :
    Calls Try.prog 14 #[.pointer (some ⟨b, 0, none⟩), .int .i64 x, .bool normal, .int .i64 (now : Nat)] w fun e w' => e = .returned (.slice none 0 0) ∧ w = w' := by
  obtain ⟨gc, tv, h1, h2, h3, h4, h5, h6⟩ := h
  exact down_no h1 x hx hl normal now
theorem ss_up (h : SS w0 C w b S) (hl : S.cs.length ≤ 32) : Calls Try.prog 19 #[.pointer (some ⟨b, 0, none⟩)] w (NewInts w (upsI S.cs S.cs.length)) := by
  obtain ⟨gc, tv, h1, h2, h3, h4, h5, h6⟩ := h
  exact up_any h1 hl
theorem ss_done (h : SS w0 C w b S) : Calls Try.prog 20 #[.pointer (some ⟨b, 0, none⟩)] w fun e w' => e = .returned (.bool (decide (S.st = 3))) ∧ w = w' := by
  obtain ⟨gc, tv, h1, h2, h3, h4, h5, h6⟩ := h
  exact done_any h1
/-- a new one, beside the caller's blocks -/
theorem ss_new {cs : List Ch} {s : Sp} (hv : ChR w v cs) (hm : I64i s.m) (ht : I64i s.t) (hb : rightL s cs = []) (h0 : Kp (fun _ => False) w0 w) (hC : ∀ q, C q → q < w.heap.size) :
    Calls Try.prog 11 #[specV s v] w fun e w' => ∃ b, e = .returned (.tuple #[.pointer (some ⟨b, 0, none⟩), .nilIface]) ∧ SS w0 C w' b (newS s cs) ∧ Kp (fun _ => False) w w' := by
  refine (new_ok hv hm ht hb).mono ?_
  rintro e w' ⟨b, gc, rfl, h1, h2, h3, h4⟩
  have hz := h0.size
  have hz4 := h4.size
  exact ⟨b, rfl, ⟨gc, .slice none 0 0, h1, ⟨by omega, fun e => by have := hC b e; omega⟩, ⟨by omega, fun e => by have := hC gc e; omega⟩, (fun g hg => by cases hg), fun q hq => by have := hC q hq; omega, h0.trans' h4⟩, h4⟩
theorem newS_ok {cs : List Ch} {s : Sp} (hb : rightL s cs = []) (now : Nat) : SuOk (newS s cs) now := by
  have hmay : mayL s cs = [] := by
    unfold rightL at hb
    split at hb
    · assumption
    · cases hb
  have hsp : spOk s cs.length = true := by
    unfold mayL at hmay
    split at hmay
    · assumption
    · cases hmay
  have hbad : ¬ badAt cs < cs.length := by
    intro h
    unfold mayL at hmay
    rw [hsp, if_pos rfl, if_pos h] at hmay
    cases hmay
  simp [spOk, isInB, sgOk] at hsp
  have hup : ∀ i, upAt (cs.map kidOf) i = false := fun i => by
    unfold upAt
    rw [List.getElem?_map]
    cases cs[i]? <;> rfl
  refine ⟨⟨?_, ?_, ?_, ?_, ?_, ?_, ?_, ?_, ?_, ?_, ?_, ?_⟩, ?_, ?_, ?_, ?_, ?_, ?_⟩
  · show s.sg = 1 ∨ s.sg = 2 ∨ s.sg = 3
    omega
  · show (cs.map kidOf).length ≤ 32
    rw [List.length_map]; omega
  · show s.m.toNat ≤ 1000
    omega
  · show 1 ≤ s.t.toNat
    omega
  · show s.t.toNat ≤ 10000
    omega
  · intro i k hk
    have hk' : (cs.map kidOf)[i]? = some k := hk
    rw [List.getElem?_map] at hk'
    obtain ⟨c, hc, rfl⟩ := Option.map_eq_some_iff.1 hk'
    have hl := (List.getElem?_eq_some_iff.1 hc).1
    have h2 := List.not_of_lt_findIdx (p := fun c => !chOk c) (xs := cs) (i := i) (by show i < badAt cs; omega)
    have h4 : cs[i] = c := by
      rw [List.getElem?_eq_getElem hl] at hc
      exact Option.some.inj hc
    rw [h4] at h2
    have h5 : chOk c = true := by simpa using h2
    simp [chOk, isInB] at h5
    show (c.2.1 = 0 ∨ c.2.1 = 1 ∨ c.2.1 = 2) ∧ -1 ≤ c.2.2 ∧ c.2.2 ≤ 10000
    omega
  · show 0 ≤ 1001
    omega
  · exact List.Pairwise.nil
  · intro x hx; cases hx
  · exact Nat.zero_le _
  · exact Nat.zero_le _
  · show 0 ≤ 32
    omega
  · show 0 ≤ 3
    omega
  · show 0 ≤ 2
    omega
  · intro _; exact Nat.zero_le _
  · intro e; exact absurd e (by show ¬ (0 = 2); omega)
  · intro e; exact absurd e (by show ¬ (0 = 2); omega)
  · intro _ i; exact hup i
end
end Go.Proofs.Ytbdogiblndlimaa
