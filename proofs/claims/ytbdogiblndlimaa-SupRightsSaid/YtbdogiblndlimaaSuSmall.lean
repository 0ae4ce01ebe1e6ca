/- A supervisor's plans and tests: the end, a restart, who is up, who is started again, how long it is. -/
import Derived.Test.YtbdogiblndlimaaSuTurn
namespace Go.Proofs.Ytbdogiblndlimaa
open Go.RowKit
set_option linter.unusedVariables false

section
variable {w w' : World} {b gc i : Nat} {tv : Value} {S S' : Su} {k : Kd} {A : Acts}
/-- it is turned, and nothing is said -/
def SuQ (w : World) (b gc : Nat) (tv : Value) (S' : Su) (e : Ending) (w' : World) : Prop :=
  e = .returned (.tuple #[]) ∧ SuAt w' b gc tv S' ∧ Kp (fun q => q = b) w w'
set_option maxHeartbeats 1000000 in
theorem end_any (h : SuAt w b gc tv S) (hl : S.cs.length ≤ 32) : Calls Try.prog 36 #[.pointer (some ⟨b, 0, none⟩)] w (SuQ w b gc tv (endS S)) := by
  have c1 := h.c1
  have c6 := h.c6
  have c7 := h.c7
  have c8 := h.c8
  have hfz := h.fz
  have h1 := h.put (S' := { S with fr := 0 }) 6 (.int .i64 0) rfl rfl rfl
  have h2 := h1.put (S' := { S with fr := 0, to := S.cs.length }) 7 (.int .i64 (S.cs.length : Nat)) rfl rfl rfl
  have h3 := h2.put (S' := endS S) 8 (.func (.func 52) #[.pointer (some ⟨b, 0, none⟩)] #[]) rfl rfl rfl
  have HE := Lib.hid h3
  have HK := Lib.hid ((((Kp.refl (fun q => q = b) w).setCell ⟨b, 6, none⟩ (.int .i64 0) (.inl rfl)).setCell ⟨b, 7, none⟩ (.int .i64 (S.cs.length : Nat)) (.inl rfl)).setCell ⟨b, 8, none⟩ (.func (.func 52) #[.pointer (some ⟨b, 0, none⟩)] #[]) (.inl rfl))
  clear h h1 h2 h3
  have hmf : ∀ (fn : Fn) (first cap : Array Value) (w : World), (Instr.makeFunc fn first cap).run Try.prog w = .ok (.func fn first cap) w := fun _ _ _ _ => rfl
  go_enter Try.func36, Try.ntmps36
  go_wp2_with fail
  refine bodyPost_end (results_none rfl _ _ _) rfl ?_
  exact ⟨rfl, HE.out, HK.out⟩
set_option maxHeartbeats 1000000 in
theorem isUp_yes (h : SuAt w b gc tv S) (hk : S.cs[i]? = some k) (hl : S.cs.length ≤ 32) : Calls Try.prog 33 #[.pointer (some ⟨b, 0, none⟩), .int .i64 (i : Nat)] w fun e w' => e = .returned (.bool k.u) ∧ w = w' := by
  have c1 := h.c1
  have k2 := h.k2 hk
  have hi := (List.getElem?_eq_some_iff.1 hk).1
  have hii : (i : Int) < S.cs.length := by omega
  have h1 : decide ((0 : Int) ≤ (i : Int)) = true := by simp
  have h2 : decide ((i : Int) < S.cs.length) = true := by simpa using hi
  have h3 : decide (i < S.cs.length) = true := by simpa using hi
  clear h hk
  go_enter Try.func33, Try.ntmps33
  go_wp2_with fail
  go_ret
  exact ⟨rfl, rfl⟩
set_option maxHeartbeats 1000000 in
theorem isUp_no (h : SuAt w b gc tv S) (c : Int) (hc : c < 0 ∨ (S.cs.length : Int) ≤ c) (hl : S.cs.length ≤ 32) : Calls Try.prog 33 #[.pointer (some ⟨b, 0, none⟩), .int .i64 c] w fun e w' => e = .returned (.bool false) ∧ w = w' := by
  have c1 := h.c1
  clear h
  rcases hc with hc | hc
  · have h1 : decide ((0 : Int) ≤ c) = false := by simpa using hc
    have h2 : ¬ 0 ≤ c := by omega
    go_enter Try.func33, Try.ntmps33
    go_wp2_with fail
    go_ret
    exact ⟨rfl, rfl⟩
  · have h1 : decide ((0 : Int) ≤ c) = true := by simp; omega
    have h2 : 0 ≤ c := by omega
    have h3 : decide (c < (S.cs.length : Int)) = false := by simpa using hc
    have h4 : ¬ c < (S.cs.length : Int) := by omega
    go_enter Try.func33, Try.ntmps33
    go_wp2_with fail
    go_ret
    exact ⟨rfl, rfl⟩
set_option maxHeartbeats 1000000 in
theorem isAgain_any (h : SuAt w b gc tv S) (hk : S.cs[i]? = some k) (hl : S.cs.length ≤ 32) (normal : Bool) : Calls Try.prog 34 #[.pointer (some ⟨b, 0, none⟩), .int .i64 (i : Nat), .bool normal] w fun e w' => e = .returned (.bool (againB k.r normal)) ∧ w = w' := by
  have c1 := h.c1
  have k0 := h.k0 hk
  have hi := (List.getElem?_eq_some_iff.1 hk).1
  have hii : (i : Int) < S.cs.length := by omega
  obtain ⟨x, hx⟩ : ∃ x, k.r = x := ⟨_, rfl⟩
  rw [hx] at k0 ⊢
  clear h hk hx
  by_cases h0 : x = 0
  · subst h0
    go_enter Try.func34, Try.ntmps34
    go_wp2_with fail
    go_ret
    exact ⟨rfl, rfl⟩
  · by_cases h1 : x = 1
    · subst h1
      go_enter Try.func34, Try.ntmps34
      go_wp2_with fail
      go_ret
      exact ⟨by simp [againB], rfl⟩
    · have e0 : (x == 0) = false := by simpa using h0
      have e1 : (x == 1) = false := by simpa using h1
      have HE : Hid (againB x normal = false) := Lib.hid (by simp [againB, h0, h1])
      go_enter Try.func34, Try.ntmps34
      go_wp2_with fail
      go_ret
      exact ⟨by rw [HE.out]; rfl, rfl⟩
end
end Go.Proofs.Ytbdogiblndlimaa
