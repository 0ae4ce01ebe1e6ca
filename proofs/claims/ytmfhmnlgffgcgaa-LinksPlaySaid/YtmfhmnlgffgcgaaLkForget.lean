/- A net's way forget; ties and cuts. -/
import Derived.Test.YtmfhmnlgffgcgaaLkNet
namespace Go.Proofs.Ytmfhmnlgffgcgaa
open Go.RowKit Go.Maps
set_option linter.unusedVariables false

section
variable {F G : Nat → Prop} {w w' w'' : World} {b : Nat} {col col' col'' : Nat → Nat} {h h' : Nat → Value} {S : Nat → List (Int × Int)} {ms : List Mo} {k : Nat} {a x r : Int} {v : Value}
/-- the monitors' map is turned, and maybe the net's own cells -/
theorem nx_mon {h' : Nat → Value} {ms' : List Mo} (H : Nx w b col h S ms) {F : Nat → Prop} (hk : Kp F w w') (hF : ∀ q, q < w.heap.size → F q → col q = 5 ∨ q = b) (h1 : HeadAt w' b h') (h2 : ∀ j, j < 6 → h' j = h j) (h3 : Mon w' (fun q => col q = 5 ∨ w.heap.size ≤ q) (h' 6) ms') :
    ∃ col', Nx w' b col' h' S ms' ∧ NxStep w col w' col' := by
  refine ⟨colTo col w w' 5, ⟨h1, ?_, fun j hj => ?_, ?_, fun q hq => ?_⟩, fun q hq => colTo_old hq, hk.mono fun q hq e => ?_⟩
  · rw [colTo_old H.head.lt]; exact H.b1
  · rw [h2 (2 * j) (by omega), h2 (2 * j + 1) (by omega)]
    have h5 := (H.tb j hj).re (G' := fun q => col q = 2 + j ∧ q < w.heap.size) fun q h6 h7 => ⟨h7, h6⟩
    refine (h5.kp hk (fun q e2 e3 => ?_)).re fun q hq e2 => ?_
    · rcases hF q e2.2 e3 with e | e
      · have := e2.1; omega
      · subst e
        have := e2.1
        have := H.b1
        omega
    · rw [colTo_old e2.2]
      exact e2.1
  · refine h3.re fun q hq e => ?_
    unfold colTo
    by_cases hw : w.heap.size ≤ q
    · rw [if_pos ⟨hw, hq⟩]
    · rw [if_neg (by omega)]
      exact e.elim id (fun e => absurd e hw)
  · unfold colTo
    have := hk.size
    rw [if_neg (by omega)]
    exact H.fr q (by omega)
  · rcases hF q hq e with e2 | e2
    · omega
    · subst e2; have := H.b1; omega
set_option maxRecDepth 100000 in
set_option maxHeartbeats 2000000 in
theorem nx_forget (H : Nx w b col h S ms) {m : Mo} (hm : m ∈ ms) (hr : I64 m.ref) :
    Calls Try.prog 44 #[.pointer (some ⟨b, 0, none⟩), .int .i64 m.ref] w (NxTo w b col h S (butRef ms m.ref)) := by
  rcases H.mon with ⟨h1, h2⟩ | ⟨mb, h1, h2, h3⟩
  · rw [h2] at hm
    cases hm
  · obtain ⟨w1, r1, mm1, k1, z1⟩ := h3.del hm hr 0
    have hbm : ¬ b = mb := fun e => by
      have := H.b1
      rw [e, h2] at this
      omega
    have H1 := H.head.kp k1 hbm
    have c6 : w.cell? ⟨b, 6, none⟩ = some (.map (some mb)) := by rw [← h1]; exact H.head.cell (by omega)
    have d6 : w1.cell? ⟨b, 6, none⟩ = some (.map (some mb)) := by rw [← h1]; exact H1.cell (by omega)
    have fz := H1.fz
    have hln := mm1.len
    by_cases h0 : butRef ms m.ref = []
    · rw [h0] at hln
      have hln2 : (Builtin.len_ #[29] 3 #[.map (some mb)]).run Try.prog w1 = .ok (.int .i64 0) w1 := hln
      have HF : Hid (NxTo w b col h S (butRef ms m.ref) (.returned (.tuple #[])) (w1.setCell ⟨b, 6, none⟩ (.map none))) := by
        have k2 : Kp (fun q => q = mb ∨ q = b) w (w1.setCell ⟨b, 6, none⟩ (.map none)) := (k1.mono fun _ _ e => .inl e).trans' ((Kp.refl (fun q => q = mb ∨ q = b) w1).setCell _ _ (.inl (.inr rfl)))
        obtain ⟨col', h4, h5⟩ := nx_mon (ms' := butRef ms m.ref) H k2 (fun q _ e => e.elim (fun e => .inl (e ▸ h2)) .inr) (H1.set (off := 6) (by omega) (.map none)) (fun j hj => upd_other _ _ (by omega)) (.inl ⟨upd_same _ _ _, h0⟩)
        exact Lib.hid ⟨rfl, col', _, h4, upd_other _ _ (by omega), h5⟩
      clear hln H H1 h1 h2 h3 mm1 k1 z1 hm hr hbm h0
      go_enter Try.func44, Try.ntmps44
      go_wp2_with fail
      refine bodyPost_end (results_none rfl _ _ _) rfl ?_
      exact HF.out
    · have hl0 : ((butRef ms m.ref).length : Int) ≠ 0 := by
        have := List.length_pos_iff.2 h0
        omega
      have HF : Hid (NxTo w b col h S (butRef ms m.ref) (.returned (.tuple #[])) w1) := by
        obtain ⟨col', h4, h5⟩ := nx_mon (ms' := butRef ms m.ref) H k1 (fun q _ e => .inl (e ▸ h2)) H1 (fun j hj => rfl) (.inr ⟨mb, h1, .inl h2, mm1⟩)
        exact Lib.hid ⟨rfl, col', _, h4, rfl, h5⟩
      obtain ⟨M, hM⟩ : ∃ M, (butRef ms m.ref).length = M := ⟨_, rfl⟩
      rw [hM] at hln hl0
      have hlb : ((M : Int) == 0) = false := by rw [beq_eq_false_iff_ne]; exact hl0
      clear H H1 h1 h2 h3 mm1 k1 z1 hm hr hbm h0 hM hl0
      go_enter Try.func44, Try.ntmps44
      go_wp2_with fail
      refine bodyPost_end (results_none rfl _ _ _) rfl ?_
      exact HF.out
end
end Go.Proofs.Ytmfhmnlgffgcgaa
