/- Supervisors of a statement's own: what their states are. -/
import Derived.Test.YtbdogiblndlimaaSuSame
namespace Go.Proofs.Ytbdogiblndlimaa
open Go.RowKit
set_option linter.unusedVariables false

section
variable {C C' D : Nat → Prop} {w0 w w' : World} {b c : Nat} {S S' : Su} {A : Acts} {e : Ending} {now : Nat} {cs : List Ch} {s : Sp} {v : Value}
theorem rightL_nil (h1 : spOk s cs.length = true) (h2 : ∀ c ∈ cs, chOk c = true) : rightL s cs = [] := by
  have hb : badAt cs = cs.length := by
    unfold badAt
    rw [List.findIdx_eq_length]
    intro x hx
    simp [h2 x hx]
  have hm : mayL s cs = [] := by
    unfold mayL
    rw [h1, if_pos rfl, if_neg (by omega)]
  unfold rightL
  rw [if_pos hm]
theorem AcW.none (h : AcW w v []) : v = .slice none 0 0 ∨ ∃ g cap, v = .slice (some ⟨g, 0, none⟩) 0 cap := by
  obtain ⟨po, cap, rfl, -, -⟩ := h.form
  rcases h.2 with ⟨e, _⟩ | ⟨g, cap, cur, e, _⟩
  · exact .inl e
  · exact .inr ⟨g, cap, e⟩
/-- a row of acts that was told stays, whatever the supervisor does -/
theorem AcW.keep (h : AcW w v A) (hv : ∀ g, v.ownBlock = some g → C g) (hk : Kp (fun q => ¬ C q) w w') : AcW w' v A := hk.rowS h fun g hg e => e (hv g hg)
/-- a literal's row of one act -/
theorem one_lit (w : World) (k c : Int) : AcW (w.alloc (.cells #[.int .i64 k, .int .i64 c] 40)) (.slice (some ⟨w.heap.size, 0, none⟩) 1 1) [(k, c)] := act_one w k c
theorem ss_end (h : SS w0 C w b S) (hk : Kp (fun _ => False) w w') : Below w0.heap.size w0 w' := (h.kp0.trans' hk).below w0.heap.size (Nat.le_refl _) fun _ e => e.elim
end
end Go.Proofs.Ytbdogiblndlimaa
