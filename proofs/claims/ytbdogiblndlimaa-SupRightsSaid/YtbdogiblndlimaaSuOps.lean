/- A supervisor's small functions: a child is stopped, killed, started; the end. -/
import Derived.Test.YtbdogiblndlimaaSuMem
import Derived.WalkKit
import Derived.WalkSpells
import Derived.WalkLawsBesides
import Derived.Lib.Hide
import Derived.OwnWalk
import Derived.LoopN
import Derived.Deep.LoopGhost
import Derived.Deep.RegionLaw
import Derived.RegionTactic
import Derived.BigQuiet
import Derived.BigGuardPart
import Derived.Deep.QuietTactic
namespace Go.Proofs.Ytbdogiblndlimaa
open Go.RowKit
set_option linter.unusedVariables false

section
variable {w w' : World} {b gc i : Nat} {tv : Value} {S S' : Su} {k : Kd}
set_option maxHeartbeats 1000000 in
theorem kill_any (h : SuAt w b gc tv S) : Calls Try.prog 40 #[.pointer (some ⟨b, 0, none⟩)] w (SuTo w b gc tv { S with kd := true } [(3, (S.hl : Nat))]) := by
  have c9 := h.c9
  have c11 := h.c11
  have hfz := h.fz
  have HE := Lib.hid (SuTo.one (w := w) 3 (S.hl : Nat) (h.put (S' := { S with kd := true }) 11 (.bool true) rfl rfl rfl) ((Kp.refl _ w).setCell _ _ (.inl (.inl rfl))) (g := w.heap.size) (by simp))
  clear h
  go_enter Try.func40, Try.ntmps40
  go_wp2_with fail
  go_ret
  exact HE.out
set_option maxHeartbeats 1000000 in
theorem exit_any (h : SuAt w b gc tv S) : Calls Try.prog 52 #[.pointer (some ⟨b, 0, none⟩)] w (SuTo w b gc tv { S with st := 3 } [(4, 0)]) := by
  have c5 := h.c5
  have hfz := h.fz
  have HE := Lib.hid (SuTo.one (w := w) 4 0 (h.put (S' := { S with st := 3 }) 5 (.int .i64 3) rfl rfl rfl) ((Kp.refl _ w).setCell _ _ (.inl (.inl rfl))) (g := w.heap.size) (by simp))
  clear h
  go_enter Try.func52, Try.ntmps52
  go_wp2_with fail
  go_ret
  exact HE.out
/-- a child is started -/
def StartTo (w : World) (b gc : Nat) (tv : Value) (S : Su) (i : Nat) (e : Ending) (w' : World) : Prop :=
  e = .returned (.agg #[.int .i64 1, .int .i64 (i : Nat)]) ∧ SuAt w' b gc tv { S with cs := setU S.cs i true } ∧ Kp (fun q => q = gc) w w'
set_option maxHeartbeats 1000000 in
theorem start_any (h : SuAt w b gc tv S) (hk : S.cs[i]? = some k) (hl : S.cs.length ≤ 32) : Calls Try.prog 32 #[.pointer (some ⟨b, 0, none⟩), .int .i64 (i : Nat)] w (StartTo w b gc tv S i) := by
  have hi := (List.getElem?_eq_some_iff.1 hk).1
  have hii : (i : Int) < S.cs.length := by omega
  have ha := h.same ((Kp.refl (fun _ => False) w).alloc (.cells #[.int .i64 0, .int .i64 0] 40))
  have c1 := ha.c1
  have k2 := ha.k2 hk
  have hfz := ha.fzk
  have HE := Lib.hid ((h.turn hk true).same ((Kp.refl (fun _ => False) _).alloc (.cells #[.int .i64 1, .int .i64 (i : Nat)] 40)))
  have HK := Lib.hid (((Kp.refl (fun q => q = gc) w).setCell ⟨gc, i * 3 + 2, none⟩ (.bool true) (.inl rfl)).alloc (.cells #[.int .i64 1, .int .i64 (i : Nat)] 40))
  have hr : ((w.setCell ⟨gc, i * 3 + 2, none⟩ (.bool true)).alloc (.cells #[.int .i64 1, .int .i64 (i : Nat)] 40)).heap[w.heap.size]? = some (.cells #[.int .i64 1, .int .i64 (i : Nat)] 40 (0, 0)) := by
    have := heap_alloc_new (w.setCell ⟨gc, i * 3 + 2, none⟩ (.bool true)) (.cells #[.int .i64 1, .int .i64 (i : Nat)] 40)
    simpa using this
  have HI := Lib.hid (And.intro (cell_of_row _ w.heap.size 0 _ _ _ hr) (cell_of_row _ w.heap.size 1 _ _ _ hr))
  have hgl := h.lt.2
  clear h ha hr
  go_enter Try.func32, Try.ntmps32
  go_wp2_with fail
  refine bodyPost_ret (v := .agg #[.int .i64 1, .int .i64 (i : Nat)]) (by simp [results, Try.results32, go_sem, HI.out.1, HI.out.2]) rfl ?_
  exact ⟨rfl, HE.out, HK.out⟩
theorem alloc_acts (h : SuAt w b gc tv S) (k c : Int) : SuAt (w.alloc (.cells #[.int .i64 k, .int .i64 c] 40)) b gc tv S := h.same ((Kp.refl _ w).alloc _)
set_option maxHeartbeats 1000000 in
theorem halt_any (h : SuAt w b gc tv S) (hk : S.cs[i]? = some k) (hl : S.cs.length ≤ 32) (now : Nat) : Calls Try.prog 54 #[.pointer (some ⟨b, 0, none⟩), .int .i64 (i : Nat), .int .i64 (now : Nat)] w (SuTo w b gc tv (haltS S i now) (haltA S i)) := by
  have hi := (List.getElem?_eq_some_iff.1 hk).1
  have hii : (i : Int) < S.cs.length := by omega
  have c1 := h.c1
  have c5 := h.c5
  have c9 := h.c9
  have c10 := h.c10
  have c11 := h.c11
  have k1 := h.k1 hk
  have hfz := h.fz
  have hbg := h.bg
  have hbg2 := h.bg.symm
  have H1 := h.put (S' := { S with st := 2 }) 5 (.int .i64 2) rfl rfl rfl
  have H2 := H1.put (S' := { S with st := 2, hl := i }) 9 (.int .i64 (i : Nat)) rfl rfl rfl
  have H3 := H2.put (S' := { S with st := 2, hl := i, si := now }) 10 (.int .i64 (now : Nat)) rfl rfl rfl
  have K3 : Kp (fun q => q = b ∨ q = gc) w (((w.setCell ⟨b, 5, none⟩ (.int .i64 2)).setCell ⟨b, 9, none⟩ (.int .i64 (i : Nat))).setCell ⟨b, 10, none⟩ (.int .i64 (now : Nat))) :=
    (((Kp.refl _ w).setCell _ _ (.inl (.inl rfl))).setCell _ _ (.inl (.inl rfl))).setCell _ _ (.inl (.inl rfl))
  by_cases ht : k.t = -1
  · have HE : Hid (∀ e w', SuTo (((w.setCell ⟨b, 5, none⟩ (.int .i64 2)).setCell ⟨b, 9, none⟩ (.int .i64 (i : Nat))).setCell ⟨b, 10, none⟩ (.int .i64 (now : Nat))) b gc tv { S with st := 2, hl := i, si := now, kd := true } [(3, (i : Nat))] e w' → SuTo w b gc tv (haltS S i now) (haltA S i) e w') := by
      refine Lib.hid fun e w' hx => ?_
      obtain ⟨v, h1, h2, h3, h4, h5⟩ := hx
      have hz := K3.size
      refine ⟨v, h1, ?_, ?_, fun g hg => Nat.le_trans hz (h4 g hg), K3.trans' h5⟩
      · unfold haltS
        rw [tAt_of hk, ht]
        exact h2
      · unfold haltA
        rw [tAt_of hk, ht]
        exact h3
    have HC := Lib.hid (kill_any H3)
    rw [ht] at k1
    clear h H1 H2 H3 K3 ht
    go_enter Try.func54, Try.ntmps54
    go_wp2_with fail
    refine HC.out.mono ?_
    rintro e w' hx
    obtain ⟨v, rfl, -⟩ := id hx
    have HX := Lib.hid (HE.out _ _ hx)
    clear hx HE HC
    go_wp2_with fail
    go_ret
    exact HX.out
  · have hh := SuTo.one (w := w) (w1 := (((w.setCell ⟨b, 5, none⟩ (.int .i64 2)).setCell ⟨b, 9, none⟩ (.int .i64 (i : Nat))).setCell ⟨b, 10, none⟩ (.int .i64 (now : Nat))).setCell ⟨b, 11, none⟩ (.bool false)) 2 (i : Nat) (H3.put (S' := { S with st := 2, hl := i, si := now, kd := false }) 11 (.bool false) rfl rfl rfl) (K3.setCell _ _ (.inl (.inl rfl))) (g := w.heap.size) (by simp)
    have e1 : haltS S i now = { S with st := 2, hl := i, si := now, kd := false } := by
      unfold haltS
      rw [tAt_of hk, decide_eq_false ht]
    have e2 : haltA S i = [(2, ((i : Nat) : Int))] := by
      unfold haltA
      rw [tAt_of hk, if_neg ht]
    rw [← e1, ← e2] at hh
    have HE := Lib.hid hh
    clear hh e1 e2
    obtain ⟨x, hx⟩ : ∃ x, k.t = x := ⟨_, rfl⟩
    rw [hx] at k1 ht
    have ht2 : (x == -1) = false := by simpa using ht
    clear h H1 H2 H3 K3 hx
    go_enter Try.func54, Try.ntmps54
    go_wp2_with fail
    go_ret
    exact HE.out
end
end Go.Proofs.Ytbdogiblndlimaa
