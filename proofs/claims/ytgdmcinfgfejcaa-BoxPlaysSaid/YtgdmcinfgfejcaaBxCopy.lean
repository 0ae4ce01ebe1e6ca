/- copy of words over words of one's own, as an equation; a region's step by it. -/
import Derived.Test.YtgdmcinfgfejcaaBxRow
namespace Go
open Go.RowKit
section
variable {P : Program} {w : World}
theorem wpList_runc {ops : Array Oper} {rest : List Oper} {o : Oper} {a : Act} {Q : Exit → Act → World → Prop} (hgd : o.guard = none) (s x : Operand) (t : TypeId)
    (ho : o.op = .call { callee := .builtin .copy, args := #[s, x], argTypes := #[t, t] }) (sv xv : Value) (hs : a.eval s = sv) (hx : a.eval x = xv) (v : Value) (w' : World)
    (hr : (Builtin.copy_ #[t, t] o.type #[sv, xv]).run P w = .ok v w') (h : wpList P ops Q rest (a.put o.dst v) w') : wpList P ops Q (o :: rest) a w := by
  refine wpList_plain hgd fun _ hK => ?_
  unfold Oper.wp execOp
  simp only [ho, resolve, invoke, builtin, Sem.run_bind, Sem.run_pure, Result.andThen_ok, List.map_toArray, List.map_cons, List.map_nil, hs, hx, hr]
  exact hK _ _ h
theorem step_runc {ops : Array Oper} {o : Oper} {a : Act} {K : Act → World → Prop} {Q : Exit → Act → World → Prop} {E : Prop} (hgd : o.guard = none) (s x : Operand) (t : TypeId)
    (ho : o.op = .call { callee := .builtin .copy, args := #[s, x], argTypes := #[t, t] }) (sv xv : Value) (hs : a.eval s = sv) (hx : a.eval x = xv) (v : Value) (w' : World)
    (hr : (Builtin.copy_ #[t, t] o.type #[sv, xv]).run P w = .ok v w') (h : K (a.put o.dst v) w') :
    if Region.wanted o (yielded ops a.tmps) = true then Oper.wp P o a w K Q else E := by
  have hw : Region.wanted o (yielded ops a.tmps) = true := by simp [Region.wanted, hgd]
  rw [if_pos hw]
  unfold Oper.wp execOp
  simp only [ho, resolve, invoke, builtin, Sem.run_bind, Sem.run_pure, Result.andThen_ok, List.map_toArray, List.map_cons, List.map_nil, hs, hx, hr]
  exact h
end
end Go
namespace Go.Proofs.Ytgdmcinfgfejcaa
open Go.RowKit
theorem Try.sizeWord : (Try.prog.info? 27).map (·.size) = some 1 := by kernel_rfl
section
variable {w w' : World} {v : Value} {xs cs : List Int}
theorem wv_splice (xs cs : List Int) (off : Nat) : wv (splice xs off cs) = (wv xs).take off ++ (wv cs ++ (wv xs).drop (off + cs.length)) := by
  simp [wv, splice]
theorem words_over (ho : Wr w v xs) (off dLen dCap sLen sCap : Nat) (dp sp : Option Addr) (ty : TypeId) (hn : cs.length = Nat.min sLen dLen)
    (hd : 0 < cs.length → ∃ g cap, v = .slice (some ⟨g, 0, none⟩) xs.length cap ∧ dp = some ⟨g, off, none⟩)
    (hs : ∀ i x, cs[i]? = some x → ∃ g o, sp = some ⟨g, o, none⟩ ∧ w.cell? ⟨g, o + i, none⟩ = some (.int .u64 x)) (hfit : off + cs.length ≤ xs.length) :
    ∃ w', (Builtin.copy_ #[24, 24] ty #[.slice dp dLen dCap, .slice sp sLen sCap]).run Try.prog w = .ok (goInt cs.length) w' ∧ Wr w' v (splice xs off cs) ∧ Kp (fun q => v.ownBlock = some q) w w' := by
  by_cases h0 : cs = []
  · subst h0
    refine ⟨w, ?_, by simpa [splice] using ho, Kp.refl _ w⟩
    exact run_copy_none (P := Try.prog) w _ _ ty 27 dp sp dLen dCap sLen sCap Try.underlying24 Try.sizeWord (by simpa using hn.symm)
  · have hpos : 0 < cs.length := List.length_pos_iff.2 h0
    obtain ⟨g, cap, rfl, rfl⟩ := hd hpos
    obtain ⟨g2, o2, rfl, -⟩ := hs 0 cs[0] (List.getElem?_eq_getElem hpos)
    have hsrc : ∀ i u, (wv cs)[i]? = some u → w.cell? ((⟨g2, o2, none⟩ : Addr).add i) = some u := by
      intro i u hu
      obtain ⟨x, hx, rfl⟩ := wv_got hu
      obtain ⟨g3, o3, e, hc⟩ := hs i x hx
      injection e with e
      rw [e, Go.WideShapes.add_plain]
      exact hc
    rcases ho.2 with ⟨e, _⟩ | ⟨g4, cap4, cur, e, hb, hg, h2, h3, h4, h5⟩
    · cases e
    · injection e with e1 _ e2
      injection e1 with e1
      injection e1 with e1
      subst e1 e2
      have hr := run_copy_row (P := Try.prog) w 24 24 ty 27 g off dLen dCap ⟨g2, o2, none⟩ sLen sCap cur 27 (wv cs) Try.underlying24 Try.sizeWord hg (by rw [wv_len]; exact hn) hsrc (by rw [wv_len]; omega) (wv_one cs)
      rw [wv_len] at hr
      have hlen : (splice xs off cs).length = xs.length := length_splice xs off cs hfit
      refine ⟨_, hr, ?_, (Kp.refl _ w).grown (row := some g) ⟨rfl, rfl, rfl, by simp [World.setRow], fun q _ hq => setRow_other w g q _ (fun e => hq (by rw [e]))⟩ (fun q e => .inl (by simpa [Value.ownBlock] using e))⟩
      unfold Wr
      rw [hlen]
      refine ⟨by rw [wv_len]; exact hlen, .inr ⟨g, cap, _, rfl, Nat.zero_le _, setRow_heap w g cur _ 27 (0, 0) hg, h2, ?_, h4, ?_⟩⟩
      · simp [wv_len]; omega
      · rw [wv_splice, ← h5]
        have hcl : cur.toList.length = cur.size := by simp
        show List.take xs.length (cur.toList.take off ++ wv cs ++ cur.toList.drop (off + cs.length)) = _
        rw [List.append_assoc, List.take_append, List.take_append, List.take_take, List.take_take, List.drop_take]
        rw [List.length_take, wv_len, hcl]
        congr 1
        · congr 1; omega
        · congr 1
          · rw [List.take_of_length_le (by rw [wv_len]; omega)]
          · congr 1; omega
end
end Go.Proofs.Ytgdmcinfgfejcaa
