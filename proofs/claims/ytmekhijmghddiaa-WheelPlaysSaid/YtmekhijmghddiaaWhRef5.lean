/- The document's own wheel: what Tick has under way: those that are due, those that are left. -/
import Derived.Test.YtmekhijmghddiaaWhRef4
namespace Go.Proofs.Ytmekhijmghddiaa
open Go.RowKit

/-- Tick under way: o are due, r are left -/
structure QT (w : World) (b most e fresh : Nat) (vt : Value) (ts : List Tm) (vo : Value) (o : List Tm) (vr : Value) (r : List Tm) (wr : World) : Prop where
  blk : wr.heap[b]? = some (.cells #[.int .i64 (most : Nat), .int .i64 (e : Nat), .int .i64 (fresh : Nat), vt] 51 (0, 0))
  tsA : wr.ownsS 46 3 vt ts.length (qcells ts)
  oA : wr.ownsS 46 3 vo o.length (qcells o)
  rA : wr.ownsS 46 3 vr r.length (qcells r)
  oN : ∀ g, vo.ownBlock = some g → w.heap.size ≤ g
  rN : ∀ g, vr.ownBlock = some g → w.heap.size ≤ g
  ne : ∀ g, vo.ownBlock = some g → vr.ownBlock ≠ some g
  old : b < w.heap.size
  oldT : ∀ g, vt.ownBlock = some g → g < w.heap.size
  kp : Kp (fun q => q = b) w wr

section
variable {v vt vo vr : Value} {F G H : Nat → Prop} {w w' wr : World} {b most e fresh : Nat} {ts o r : List Tm} {t x : Tm}
theorem QT.same (h : QT w b most e fresh vt ts vo o vr r wr) (hk : Kp (fun _ => False) wr w') : QT w b most e fresh vt ts vo o vr r w' :=
  ⟨(hk.block b (Array.getElem?_eq_some_iff.1 h.blk).1 (fun e => e)).trans h.blk, hk.rowS h.tsA (fun _ _ e => e), hk.rowS h.oA (fun _ _ e => e), hk.rowS h.rA (fun _ _ e => e), h.oN, h.rN, h.ne, h.old, h.oldT, h.kp.trans' (hk.mono fun _ _ e => e.elim)⟩
/-- one more is left -/
theorem QT.pushR (h : QT w b most e fresh vt ts vo o vr r wr) (x : Tm) (hlen : r.length + 1 ≤ 100000) :
    ∃ po cap w', (Builtin.append_ #[49, 49] 49 #[vr, .slice (some ⟨wr.heap.size, 0, none⟩) 1 1]).run Try.prog (wr.alloc (.cells #[.int .i64 (x.id : Nat), .int .i64 (x.due : Nat), .int .i64 x.wht] 46)) = .ok (.slice po (r.length + 1) cap) w' ∧
      QT w b most e fresh vt ts vo o (.slice po (r.length + 1) cap) (r ++ [x]) w' := by
  have hka : Kp (fun _ => False) wr (wr.alloc (.cells #[.int .i64 (x.id : Nat), .int .i64 (x.due : Nat), .int .i64 x.wht] 46)) := (Kp.refl _ wr).alloc _
  have ha := h.same hka
  obtain ⟨v', w', h1, h2, h3, h4⟩ := q_push ha.rA x (heap_alloc_new wr _) hlen
  obtain ⟨po, cap, rfl, h5, h6⟩ := ownsS_form h2
  rw [show (r ++ [x]).length = r.length + 1 by simp] at h1 h4
  have hz := h.kp.size
  have hza := hka.size
  refine ⟨po, cap, w', h1, (h3.block b (Array.getElem?_eq_some_iff.1 ha.blk).1 (fun e => ?_)).trans ha.blk, h3.rowS ha.tsA (fun g hg e => ?_), h3.rowS ha.oA (fun g hg e => h.ne g hg e), ?_, h.oN, fun g hg => ?_, fun g hg e => ?_, h.old, h.oldT, ha.kp.trans (h3.mono fun q hq e => .inr ⟨h.rN q e, hq⟩)⟩
  · have := h.rN b e; have := h.old; omega
  · have := h.rN g e; have := h.oldT g hg; omega
  · rw [show (r ++ [x]).length = r.length + 1 by simp] at h2
    rw [show (r ++ [x]).length = r.length + 1 by simp]
    exact h2
  · rcases h4 g hg with e | e
    · exact h.rN g e
    · omega
  · rcases h4 g e with e | e
    · exact h.ne g hg e
    · have := ownsS_lt h.oA g hg; omega
theorem q_src {vi : Value} (ho : w.ownsS 46 3 vi ts.length (qcells ts)) : ∃ po cap, vi = .slice po ts.length cap ∧ (0 < ts.length → ∃ ad, po = some ad ∧ ∀ j u, (qcells ts)[j]? = some u → w.cell? (ad.add j) = some u) := by
  rcases ho.2 with ⟨rfl, h0⟩ | ⟨g, cap, cur, rfl, hg, h2⟩
  · exact ⟨none, 0, by rw [h0], fun e => by omega⟩
  · refine ⟨some ⟨g, 0, none⟩, cap, rfl, fun _ => ⟨_, rfl, fun j u hu => ?_⟩⟩
    obtain ⟨g', cap', e, -, -, hc⟩ := ownsS_get ho j u hu
    injection e with e
    injection e with e
    injection e with e
    rw [Go.WideShapes.add_plain, Nat.zero_add, e]
    exact hc
/-- one more is due: it is put in its place -/
theorem QT.ins (h : QT w b most e fresh vt ts vo o vr r wr) (x : Tm) {k co : Nat} {p P : Option Addr} (hk : k ≤ o.length) (hvo : vo = .slice p o.length co) (hP : ∀ g, p = some ⟨g, 0, none⟩ → P = if co = k then some ⟨g, 0, none⟩ else some ⟨g, k * 3, none⟩) (hlen : o.length + 1 ≤ 100000) :
    ∃ pi ci w1 po cap w2, (Builtin.append_ #[49, 49] 49 #[.slice (some ⟨wr.heap.size, 0, none⟩) 1 1, .slice P (o.length - k) (co - k)]).run Try.prog (wr.alloc (.cells #[.int .i64 (x.id : Nat), .int .i64 (x.due : Nat), .int .i64 x.wht] 46)).drew = .ok (.slice pi (1 + (o.length - k)) ci) w1 ∧
      (Builtin.append_ #[49, 49] 49 #[.slice p k k, .slice pi (1 + (o.length - k)) ci]).run Try.prog w1 = .ok (.slice po (o.length + 1) cap) w2 ∧
      QT w b most e fresh vt ts (.slice po (o.length + 1) cap) (o.take k ++ x :: o.drop k) vr r w2 := by
  have hka : Kp (fun _ => False) wr (wr.alloc (.cells #[.int .i64 (x.id : Nat), .int .i64 (x.due : Nat), .int .i64 x.wht] 46)).drew := ((Kp.refl _ wr).alloc _).drew
  have hg1 : (wr.alloc (.cells #[.int .i64 (x.id : Nat), .int .i64 (x.due : Nat), .int .i64 x.wht] 46)).drew.heap[wr.heap.size]? = some (.cells #[.int .i64 (x.id : Nat), .int .i64 (x.due : Nat), .int .i64 x.wht] 46 (0, 0)) := heap_alloc_new wr _
  have hz0 : (wr.alloc (.cells #[.int .i64 (x.id : Nat), .int .i64 (x.due : Nat), .int .i64 x.wht] 46)).drew.heap.size = wr.heap.size + 1 := by simp [World.drew]
  obtain ⟨wa, hwa⟩ : ∃ wa, (wr.alloc (.cells #[.int .i64 (x.id : Nat), .int .i64 (x.due : Nat), .int .i64 x.wht] 46)).drew = wa := ⟨_, rfl⟩
  rw [hwa] at hka hg1 hz0 ⊢
  have ha := h.same hka
  have hlit : wa.ownsS 46 3 (.slice (some ⟨wr.heap.size, 0, none⟩) 1 1) [x].length (qcells [x]) := ⟨rfl, .inr ⟨_, 1, _, rfl, hg1, Nat.le_refl _, by simp, by simp [maxLen], by simp [qcells]⟩⟩
  have hk' : (o.take k).length = k := by rw [List.length_take]; omega
  have hdl : (o.drop k).length = o.length - k := List.length_drop
  -- what is behind the place
  have hsrc : 0 < (o.drop k).length → ∃ ad, P = some ad ∧ ∀ j u, (qcells (o.drop k))[j]? = some u → wa.cell? (ad.add j) = some u := by
    intro hp
    rcases h.oA.2 with ⟨_, h0⟩ | ⟨g, cap, cur, e1, hg, h2, h3⟩
    · omega
    · rw [hvo] at e1
      injection e1 with e1 _ e3
      have := hP g e1
      rw [if_neg (by omega)] at this
      exact ⟨_, this, q_rest ha.oA k (g := g) (cap := co) (by rw [hvo, e1])⟩
  obtain ⟨vi, w1, r1, o1, k1, n1⟩ := q_app hlit P (co - k) (o.drop k) hsrc (by rw [hdl]; simp; omega)
  obtain ⟨pi, ci, rfl, hsi⟩ := q_src o1
  have hsz1 := k1.size
  have hrz := h.kp.size
  have hog : ∀ g, vo.ownBlock = some g → g < wr.heap.size := ownsS_lt h.oA
  have hrg : ∀ g, vr.ownBlock = some g → g < wr.heap.size := ownsS_lt h.rA
  have hbr : b < wr.heap.size := (Array.getElem?_eq_some_iff.1 h.blk).1
  have hgl : ∀ q, (Value.slice (some ⟨wr.heap.size, 0, none⟩) 1 1).ownBlock = some q → q = wr.heap.size := fun q e => by
    have e : wr.heap.size = q := Option.some.inj e
    exact e.symm
  have hK1 : Kp (fun _ => False) wr w1 := hka.trans (k1.mono fun q hq e => .inr ⟨by have := hgl q e; omega, hq⟩)
  have h1 := h.same hK1
  have hcut : w1.ownsS 46 3 (.slice p k k) (o.take k).length (qcells (o.take k)) := by
    rw [hk', ← qcells_take]
    rcases h1.oA.2 with ⟨e1, h0⟩ | ⟨g, cap, cur, e1, hg, h2, h3⟩
    · rw [hvo] at e1
      injection e1 with e1
      have : k = 0 := by omega
      subst this
      rw [e1, Nat.zero_mul, List.take_zero]
      exact ownsS_nil _ _ _
    · have h5 := h1.oA
      rw [hvo] at e1 h5
      injection e1 with e1
      rw [e1] at h5 ⊢
      exact ownsS_cut h5 hk
  obtain ⟨v2, w2, r2, o2, k2, n2⟩ := q_app hcut pi ci (x :: o.drop k) (fun _ => hsi (by simp)) (by rw [hk', List.length_cons, hdl]; omega)
  obtain ⟨po, cap, rfl, -, -⟩ := ownsS_form o2
  have hl2 : (o.take k ++ x :: o.drop k).length = o.length + 1 := by rw [List.length_append, hk', List.length_cons, hdl]; omega
  have hl1 : ([x] ++ o.drop k).length = 1 + (o.length - k) := by rw [List.length_append, hdl]; rfl
  have hl3 : (x :: o.drop k).length = 1 + (o.length - k) := by rw [List.length_cons, hdl]; omega
  have hpk : ∀ g, (Value.slice p k k).ownBlock = some g → vo.ownBlock = some g := fun g hg => by
    rw [hvo]
    cases p with
    | none => simp [Value.ownBlock] at hg
    | some a => exact hg
  rw [hl1] at r1
  rw [hl2] at r2 n2
  rw [hl3] at r2
  refine ⟨pi, ci, w1, po, cap, w2, by rw [← hdl]; rw [hdl]; rw [← hdl] at r1 ⊢; exact r1, r2, (k2.block b (by omega) (fun e => ?_)).trans h1.blk, k2.rowS h1.tsA (fun g hg e => ?_), by rw [hl2] at o2 ⊢; exact o2, k2.rowS h1.rA (fun g hg e => h.ne g (hpk g e) hg), fun g hg => ?_, h.rN, fun g hg e => ?_, h.old, h.oldT, h1.kp.trans (k2.mono fun q hq e => .inr ⟨h.oN q (hpk q e), hq⟩)⟩
  · have := h.oN b (hpk b e); have := h.old; omega
  · have := h.oN g (hpk g e); have := h.oldT g hg; omega
  · rcases n2 g hg with e | e
    · exact h.oN g (hpk g e)
    · omega
  · rcases n2 g hg with e2 | e2
    · exact h.ne g (hpk g e2) e
    · have := hrg g e; omega
/-- in its place: the order stays -/
theorem ins_sorted {k : Nat} (hs : o.Pairwise TmLt) (h1 : ∀ y ∈ o.take k, TmLt y x) (h2 : ∀ y ∈ o.drop k, TmLt x y) : (o.take k ++ x :: o.drop k).Pairwise TmLt := by
  have h3 := hs
  rw [← List.take_append_drop k o, List.pairwise_append] at h3
  rw [List.pairwise_append]
  refine ⟨h3.1, List.pairwise_cons.2 ⟨h2, h3.2.1⟩, fun a ha c hc => ?_⟩
  rcases List.mem_cons.1 hc with rfl | hc
  · exact h1 a ha
  · exact h3.2.2 a ha c hc
end
end Go.Proofs.Ytmekhijmghddiaa
