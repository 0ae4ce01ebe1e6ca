/- Supervisors of a statement's own: what their states are. -/
import Derived.Test.YtbdogiblndlimaaSuSame
import Derived.Deep.RegionLaw
import Derived.Deep.RegionWith
namespace Go.Proofs.Ytbdogiblndlimaa
open Go.RowKit
set_option linter.unusedVariables false

section
variable {P : Program} {w : World}
theorem su_run_fn {a : Act} {f : FuncId} {xs : Array Operand} {ts : Array TypeId} {o : Oper} (ho : o.op = .call { callee := .value (.func f), args := xs, argTypes := ts })
    (hcf : ∀ (args : Array Value) (w : World), (callFunc f args).run P w = .ok (.enter f args) w) {vs : Array Value} (hx : xs.map a.eval = vs) : (execOp a.eval o).run P w = .ok (.enter f vs) w := by
  have hev : a.eval (.func f) = .func (.func f) #[] #[] := rfl
  unfold execOp
  simp only [ho, resolve, invoke, hx, hev, Deferred.ofValue]
  simp [hcf]
theorem su_step_fn {ops : Array Oper} {o : Oper} {a : Act} {K : Act → World → Prop} {Q : Exit → Act → World → Prop} {E : Prop} (hgd : o.guard = none) (f : FuncId) (xs : Array Operand) (ts : Array TypeId)
    (ho : o.op = .call { callee := .value (.func f), args := xs, argTypes := ts }) (hcf : ∀ (args : Array Value) (w : World), (callFunc f args).run P w = .ok (.enter f args) w) (vs : Array Value) (hx : xs.map a.eval = vs)
    (h : Calls P f vs w fun e w' => ∃ v, e = .returned v ∧ K (a.put o.dst v) w') : if Region.wanted o (yielded ops a.tmps) = true then Oper.wp P o a w K Q else E := by
  have hw : Region.wanted o (yielded ops a.tmps) = true := by simp [Region.wanted, hgd]
  rw [if_pos hw]
  unfold Oper.wp
  rw [su_run_fn ho hcf hx, Oper.upon_enter]
  refine h.mono ?_
  rintro e w' ⟨v, rfl, hK⟩
  exact hK
end
theorem cf_child (args : Array Value) (w : World) : (callFunc 12 args).run Try.prog w = .ok (.enter 12 args) w := by kernel_rfl
section
variable {C C' D : Nat → Prop} {w0 w w' : World} {b c : Nat} {S S' : Su} {A : Acts} {e : Ending} {now : Nat} {cs : List Ch} {s : Sp} {v : Value}
theorem rightL_nil (h1 : spOk s cs.length = true) (h2 : ∀ c ∈ cs, chOk c = true) : rightL s cs = [] := by
  have hb : badAt cs = cs.length := by
    unfold badAt
    rw [List.findIdx_eq_length]
    intro x hx
    simp [h2 x hx]
  have hm : mayL s cs = [] := by
    unfold mayL
    rw [h1, if_pos rfl, if_neg (by omega)]
  unfold rightL
  rw [if_pos hm]
theorem AcW.none (h : AcW w v []) : v = .slice none 0 0 ∨ ∃ g cap, v = .slice (some ⟨g, 0, none⟩) 0 cap := by
  obtain ⟨po, cap, rfl, -, -⟩ := h.form
  rcases h.2 with ⟨e, _⟩ | ⟨g, cap, cur, e, _⟩
  · exact .inl e
  · exact .inr ⟨g, cap, e⟩
/-- a row of acts that was told stays, whatever the supervisor does -/
theorem AcW.keep (h : AcW w v A) (hv : ∀ g, v.ownBlock = some g → C g) (hk : Kp (fun q => ¬ C q) w w') : AcW w' v A := hk.rowS h fun g hg e => e (hv g hg)
/-- a literal's row of one act -/
theorem one_lit (w : World) (k c : Int) : AcW (w.alloc (.cells #[.int .i64 k, .int .i64 c] 40)) (.slice (some ⟨w.heap.size, 0, none⟩) 1 1) [(k, c)] := act_one w k c
theorem ss_end (h : SS w0 C w b S) (hk : Kp (fun _ => False) w w') : Below w0.heap.size w0 w' := (h.kp0.trans' hk).below w0.heap.size (Nat.le_refl _) fun _ e => e.elim
/-- a spec of the statement's own, in a block of its own, and its children's row -/
structure SpB (w0 w : World) (B : Nat) (s : Sp) (v : Value) (cs : List Ch) : Prop where
  main : w.heap[B]? = some (.cells #[.int .i64 s.sg, .int .i64 s.m, .int .i64 s.t, v] 33 (0, 0))
  row : w.ownsS 29 3 v cs.length (chC cs)
  bn : w0.heap.size ≤ B
  vn : ∀ g, v.ownBlock = some g → w0.heap.size ≤ g
  kp : Kp (fun _ => False) w0 w
theorem SpB.bv {B : Nat} (h : SpB w0 w B s v cs) : v.ownBlock ≠ some B := fun e => by
  rcases h.row.2 with ⟨rfl, _⟩ | ⟨g, cap, cur, rfl, hg, _⟩
  · cases e
  · obtain rfl : g = B := by injection e
    rw [h.main] at hg
    injection hg with hg
    injection hg with _ hg
    exact absurd hg (by decide)
theorem SpB.same {B : Nat} (h : SpB w0 w B s v cs) (hk : Kp (fun _ => False) w w') : SpB w0 w' B s v cs :=
  ⟨(hk.block B (Array.getElem?_eq_some_iff.1 h.main).1 (fun e => e)).trans h.main, hk.rowS h.row (fun _ _ e => e), h.bn, h.vn, h.kp.trans' hk⟩
/-- one more child -/
theorem SpB.push {B : Nat} (h : SpB w0 w B s v cs) (c : Ch) (hl : cs.length + 1 ≤ 4398046511104) {w1 : World} (hk : Kp (fun _ => False) w w1) :
    ∃ v' w3, (Builtin.append_ #[31, 31] 31 #[v, .slice (some ⟨w1.heap.size, 0, none⟩) 1 1]).run Try.prog (w1.alloc (.cells #[.string c.1, .int .i64 c.2.1, .int .i64 c.2.2] 29)) = .ok v' w3 ∧
      w3.cell? ⟨B, 3, none⟩ = some v ∧ w3.frozen? ⟨B, 3, none⟩ = false ∧ SpB w0 (w3.setCell ⟨B, 3, none⟩ v') B s v' (cs ++ [c]) := by
  have hka := hk.alloc (.cells #[.string c.1, .int .i64 c.2.1, .int .i64 c.2.2] 29)
  have h1 := h.same hka
  obtain ⟨v', w3, e1, e2, e3, e4⟩ := chC_push h1.row c (heap_alloc_new w1 _) hl
  have hB := h.bv
  have hm3 : w3.heap[B]? = _ := (e3.block B (Array.getElem?_eq_some_iff.1 h1.main).1 (fun e => hB e)).trans h1.main
  refine ⟨v', w3, e1, ?_, ?_, ⟨?_, ?_, h.bn, fun g hg => ?_, ?_⟩⟩
  · rw [cell_of_row _ _ 3 _ _ _ hm3]; rfl
  · simp [World.frozen?, hm3]
  · rw [su_heap_set hm3]; rfl
  · refine ((Kp.refl (fun q => q = B) w3).setCell _ _ (.inl rfl)).rowS e2 fun g hg e => ?_
    rw [e] at hg
    rcases e2.2 with ⟨e5, _⟩ | ⟨g, cap, cur, e5, hg2, _⟩
    · rw [e5] at hg; cases hg
    · rw [e5] at hg
      obtain rfl : g = B := by injection hg
      rw [hm3] at hg2
      injection hg2 with hg2
      injection hg2 with _ hg2
      exact absurd hg2 (by decide)
  · rcases e4 g hg with e | e
    · exact h.vn g e
    · have := h1.kp.size
      omega
  · refine Kp.setCell ?_ _ _ (.inr h.bn)
    exact h1.kp.trans (e3.mono fun q hq e => .inr ⟨h.vn q e, hq⟩)
end
end Go.Proofs.Ytbdogiblndlimaa
