/- One instruction more, put behind a function's own. -/
import Derived.Test.YtpbapiphafnipaaDoorM22
import Derived.Test.YtpbapiphafnipaaDoorM25
/- One instruction more, put behind a function's own. -/
namespace Go.Proofs.YtpbapiphafnipaaDoor
open Go.RowKit

theorem fnCells_set {l : List Fn4} : ∀ {cl : List Value} {k : Nat} {f f' : Fn4} {u : Value}, cl.length = l.length → l[k]? = some f → f'.name = f.name → f'.args = f.args → f'.slots = f.slots → fnCells (l.set k f') (cl.set k u) = (fnCells l cl).set (k * 4 + 3) u := by
  induction l with
  | nil => intro cl k f f' u _ h; simp at h
  | cons g l ih =>
    intro cl k f f' u hl hf h1 h2 h3
    cases cl with
    | nil => cases hl
    | cons v cl =>
      have e5 : ∀ (g : Fn4) (l : List Fn4) (v : Value) (cl : List Value), fnCells (g :: l) (v :: cl) = [Value.string g.name, .int .i64 g.args, .int .i64 g.slots, v] ++ fnCells l cl := fun _ _ _ _ => rfl
      cases k with
      | zero =>
        obtain rfl : g = f := by simpa using hf
        rw [List.set_cons_zero, List.set_cons_zero, e5, e5, h1, h2, h3]
        rfl
      | succ k =>
        have := ih (cl := cl) (k := k) (u := u) (by simpa using hl) (by simpa using hf) h1 h2 h3
        rw [List.set_cons_succ, List.set_cons_succ, e5, e5, this, List.set_append_right _ _ (by simp; omega)]
        congr 2
        simp only [List.length_cons, List.length_nil]
        omega
/-- an instruction is put behind, and the new slice is stored -/
theorem FOwn.more {W0 : Nat} {w w2 : World} {bF n c : Nat} {l : List Fn4} {cl : List Value} (h : FOwn W0 w (.slice (some ⟨bF, 0, none⟩) n c) l cl) {k : Nat} {f : Fn4} (hf : l[k]? = some f) {x : In4} (hx : x.wf) (hlen : (f.code.length + 1) * 32 ≤ 140737488351232) {u : Value} (hu : cl[k]? = some u)
    {g cap : Nat} (ho : w2.ownsRow W0 29 4 (.slice (some ⟨g, 0, none⟩) (f.code.length + 1) cap) (f.code.length + 1) (vinsCells (f.code ++ [x]))) (hk : Kp (fun q => u.ownBlock = some q) w w2) (hg : u.ownBlock = some g ∨ w.heap.size ≤ g) :
    FOwn W0 (w2.setCell ⟨bF, k * 4 + 3, none⟩ (.slice (some ⟨g, 0, none⟩) (f.code.length + 1) cap)) (.slice (some ⟨bF, 0, none⟩) n c) (l.set k (fnMore f x)) (cl.set k (.slice (some ⟨g, 0, none⟩) (f.code.length + 1) cap)) := by
  have hkl := (List.getElem?_eq_some_iff.1 hf).1
  have hnl : n = l.length := by
    rcases h.frow.2 with ⟨e, h0⟩ | ⟨g', cap', cur, e, -⟩
    · cases e
    · exact (by injection e)
  have hnoff : ∀ q, u.ownBlock = some q → q ≠ bF := fun q e e2 => h.coff k u q hu e (by rw [e2]; rfl)
  have hrow2 := hk.row h.frow (fun q e e2 => by have e3 := Option.some.inj e; simp only at e3; exact hnoff q e2 e3.symm)
  have hbF := h.frow.lt bF rfl
  have hgb : g ≠ bF := by
    rcases hg with e | e
    · exact hnoff g e
    · omega
  have hs : Kp (fun q => q = bF) w2 (w2.setCell ⟨bF, k * 4 + 3, none⟩ (.slice (some ⟨g, 0, none⟩) (f.code.length + 1) cap)) := (Kp.refl _ w2).setCell _ _ (.inl rfl)
  have key : ∀ (i : Nat) (v : Value), (cl.set k (.slice (some ⟨g, 0, none⟩) (f.code.length + 1) cap))[i]? = some v → (i = k ∧ v = .slice (some ⟨g, 0, none⟩) (f.code.length + 1) cap) ∨ (i ≠ k ∧ cl[i]? = some v) := fun i v e => by
    rw [List.getElem?_set] at e
    split at e
    · rename_i e1
      split at e
      · exact .inl ⟨e1.symm, (Option.some.inj e).symm⟩
      · cases e
    · rename_i e1
      exact .inr ⟨fun e2 => e1 e2.symm, e⟩
  refine ⟨by simp [h.clen], ?_, fun i y v hi hv => ?_, fun i j v v' q hv hv' hij hq hq' => ?_, fun i v q hv hq hq' => ?_, fun y hy => ?_⟩
  · rw [fnCells_set (f' := fnMore f x) h.clen hf rfl rfl rfl, List.length_set]
    rw [hnl] at hrow2 ⊢
    exact (hrow2.stored (k * 4 + 3) _).1
  · rcases key i v hv with ⟨rfl, rfl⟩ | ⟨e1, e2⟩
    · rw [List.getElem?_set_self hkl] at hi
      obtain rfl := Option.some.inj hi
      have e5 : (fnMore f x).code.length = f.code.length + 1 := by simp [fnMore]
      rw [e5]
      exact ⟨⟨_, _, rfl⟩, hs.row ho (fun q e e3 => by have e4 := Option.some.inj e; simp only at e4; omega)⟩
    · rw [List.getElem?_set_ne (fun e => e1 e.symm)] at hi
      have hc := h.crow i y v hi e2
      exact ⟨hc.1, hs.row (hk.row hc.2 (fun q e e3 => h.capart i k v u q e2 hu e1 e e3)) (fun q e e3 => h.coff i v q e2 e (by rw [e3]; rfl))⟩
  · rcases key i v hv with ⟨rfl, rfl⟩ | ⟨e1, e2⟩
    · rcases key j v' hv' with ⟨e3, -⟩ | ⟨e3, e4⟩
      · exact hij e3.symm
      · have e5 := Option.some.inj hq
        simp only at e5
        subst e5
        rcases hg with e6 | e6
        · exact h.capart i j u v' _ hu e4 (fun e => e3 e.symm) e6 hq'
        · have := (h.blk e4 hq').2; omega
    · rcases key j v' hv' with ⟨e3, rfl⟩ | ⟨e3, e4⟩
      · have e5 := Option.some.inj hq'
        simp only at e5
        subst e5
        rcases hg with e6 | e6
        · exact h.capart i k v u _ e2 hu e1 hq e6
        · have := (h.blk e2 hq).2; omega
      · exact h.capart i j v v' q e2 e4 hij hq hq'
  · rcases key i v hv with ⟨rfl, rfl⟩ | ⟨e1, e2⟩
    · have e5 := Option.some.inj hq
      have e6 := Option.some.inj hq'
      simp only at e5 e6
      omega
    · exact h.coff i v q e2 hq hq'
  · rcases List.mem_or_eq_of_mem_set hy with e | rfl
    · exact h.fwf y e
    · obtain ⟨w1, w2, w3, w4, w5⟩ := h.fwf f (List.mem_of_getElem? hf)
      refine ⟨w1, w2, w3, by simp only [fnMore, List.length_append, List.length_cons, List.length_nil]; omega, fun z hz => ?_⟩
      rcases List.mem_append.1 hz with e | e
      · exact w5 z e
      · rw [List.mem_singleton] at e; subst e; exact hx
end Go.Proofs.YtpbapiphafnipaaDoor
