/- The reader's levels in memory, and what they are under way. What is under way while a term is read: a Rest, or none. What is under way while a term is read: a part is begun. -/
import Derived.Test.YtaeoohjgdkablaaDoorM20
import Derived.Test.YtaeoohjgdkablaaDoorM22
/- The reader's levels in memory, and what they are under way. -/
namespace Go.Proofs.YtaeoohjgdkablaaDoor
open Go.RowKit

theorem Tryd.infoLevel : (Tryd.prog.info? 133).map (fun i => (i.zero, i.size, i.bytes)) = some (some (.agg #[.pointer none, .int .i64 0, .bool false, .bool false]), 4, 24) := by kernel_rfl

/-- the innermost level in its row -/
theorem top_at {W0 gl m cap : Nat} {w : World} {ys : List Value} {d : LvD} (ho : w.ownsRow W0 133 4 (.slice (some ⟨gl, 0, none⟩) (m + 1) cap) (m + 1) (ys ++ d.cells)) (hy : ys.length = m * 4) : LvAt w gl (m * 4) d := by
  have hc : ∀ i u, d.cells[i]? = some u → w.cell? ⟨gl, m * 4 + i, none⟩ = some u := fun i u e => by
    have hl := (List.getElem?_eq_some_iff.1 e).1
    have h4 : d.cells.length = 4 := rfl
    rw [ho.cellAt _ (by omega), List.getElem?_append_right (by omega), hy, Nat.add_sub_cancel_left]
    exact e
  refine ⟨?_, by simpa using hc 0 _ rfl, hc 1 _ rfl, hc 2 _ rfl, hc 3 _ rfl⟩
  rcases ho.2 with ⟨e, _⟩ | ⟨g', cap', cur, e, _, h2, _⟩
  · cases e
  · injection e with e
    have e := Option.some.inj e
    rw [Addr.mk.injEq] at e
    obtain ⟨rfl, _⟩ := e
    exact ⟨cur, h2⟩
theorem top_set {W0 gl m cap : Nat} {w : World} {ys : List Value} {cs : List Value} (ho : w.ownsRow W0 133 4 (.slice (some ⟨gl, 0, none⟩) (m + 1) cap) (m + 1) (ys ++ cs)) (hy : ys.length = m * 4) (j : Nat) (u : Value) :
    (w.setCell ⟨gl, m * 4 + j, none⟩ u).ownsRow W0 133 4 (.slice (some ⟨gl, 0, none⟩) (m + 1) cap) (m + 1) (ys ++ cs.set j u) := by
  have h := row_set ho (g := gl) rfl (m * 4 + j) u
  rw [List.set_append_right _ _ (by omega), hy, Nat.add_sub_cancel_left] at h
  exact h
/-- the row without the innermost level -/
theorem top_cut {W0 gl m cap : Nat} {w : World} {ys cs : List Value} (ho : w.ownsRow W0 133 4 (.slice (some ⟨gl, 0, none⟩) (m + 1) cap) (m + 1) (ys ++ cs)) (hy : ys.length = m * 4) : w.ownsRow W0 133 4 (.slice (some ⟨gl, 0, none⟩) m cap) m ys := by
  refine ⟨hy, ?_⟩
  rcases ho.2 with ⟨e, _⟩ | ⟨g', cap', cur, e, h1, h2, h3, h4, h5, h6⟩
  · cases e
  · injection e with e _ e2
    have e := Option.some.inj e
    rw [Addr.mk.injEq] at e
    obtain ⟨rfl, _⟩ := e
    subst e2
    refine .inr ⟨gl, cap, cur, rfl, h1, h2, by omega, h4, h5, ?_⟩
    have := congrArg (List.take (m * 4)) h6
    rw [List.take_take, Nat.min_eq_left (by omega), ← hy, List.take_left] at this
    rw [← hy]; exact this

/-- the levels that are built, the reader, and the levels' row: no block stands for two things -/
structure TmMem (W0 : Nat) (G : Nat → Prop) (w : World) (h tb gl R : Nat) (Ls : List Bl) : Prop where
  stk : StkOk W0 G w h tb Ls
  sep : Sep W0 G w tb Ls
  hd : ∀ L r, Ls = L :: r → L.ch = 0
  gn : gl ∉ tb :: rowsOf Ls
  gg : ¬ G gl
  rw' : R < W0
theorem TmMem.kp {W0 : Nat} {G : Nat → Prop} {w w' : World} {h tb gl R : Nat} {Ls : List Bl} (hm : TmMem W0 G w h tb gl R Ls) (hk : Kp (fun q => q = R ∨ q = gl) w w') : TmMem W0 G w' h tb gl R Ls := by
  have hn : ∀ q ∈ tb :: rowsOf Ls, ¬ (q = R ∨ q = gl) := fun q hq e => by
    rcases e with e | e
    · have := (hm.sep.lo q hq).1; have := hm.rw'; omega
    · exact hm.gn (e ▸ hq)
  exact ⟨hm.stk.kp hk (hn _ List.mem_cons_self) (fun g hg => hn g (List.mem_cons_of_mem _ hg)) (fun q hq e => by
    rcases e with e | e
    · have := (hm.sep.gl q hq).1; have := hm.rw'; omega
    · exact hm.gg (e ▸ hq)), hm.sep.size hk.size, hm.hd, hm.gn, hm.gg, hm.rw'⟩
theorem TmMem.pop {W0 : Nat} {G : Nat → Prop} {w : World} {h tb gl R : Nat} {C P : Bl} {r : List Bl} (hm : TmMem W0 G w h tb gl R (C :: P :: r)) : TmMem W0 (Gx G C) w (h + 1) tb gl R (P.took C.tm :: r) := by
  obtain ⟨h1, h2⟩ := hm.stk.pop hm.sep (hm.hd C _ rfl)
  obtain ⟨_, _, e3, e4⟩ := Bl.took_b P C.tm
  refine ⟨h1, h2, fun L r e => ?_, fun e => hm.gn ?_, fun e => ?_, hm.rw'⟩
  · injection e with e _
    rw [← e]; exact e4
  · rw [rowsOf_cons, e3] at e
    rw [rowsOf_cons, rowsOf_cons]
    rcases List.mem_cons.1 e with e | e
    · rw [e]; exact List.mem_cons_self
    · exact List.mem_cons_of_mem _ (List.mem_append_right _ e)
  · rcases e with e | e
    · exact hm.gg e
    · exact hm.gn (List.mem_cons_of_mem _ (by rw [rowsOf_cons]; exact List.mem_append_left _ e))

/-- of a frame -/
def FrOk (f : Fr) : Prop := (f.lst = true → f.inR = false ∧ f.res = []) ∧ f.left ≤ 1099511627776
theorem FrOk.push {g : Fr} (h : FrOk g) (t : Tm) : FrOk (g.push t) := by
  obtain ⟨h1, h2⟩ := h
  obtain ⟨d, its, res, left, lst, inR⟩ := g
  cases inR
  · exact ⟨fun e => ⟨rfl, (h1 e).2⟩, by show left - 1 ≤ _; simp only at h2; omega⟩
  · exact ⟨fun e => absurd (h1 e).1 (by simp), by show left - 1 ≤ _; simp only at h2; omega⟩
/-- while a term is read -/
structure TmInv (w0 w : World) (R : Nat) (v : Value) (l : List UInt8) (p tb gl cap : Nat) (fs : List Fr) (Ls : List Bl) (q : Nat) (G : Nat → Prop) (h : Nat) : Prop where
  rd : RAt w R v l q
  kp : Kp (fun q => q = R) w0 w
  mem : TmMem w0.heap.size G w h tb gl R Ls
  row : w.ownsRow w0.heap.size 133 4 (.slice (some ⟨gl, 0, none⟩) fs.length cap) fs.length (lvRow true fs (ptrs fs.length Ls))
  len : Ls.length ≤ fs.length
  ok : ∀ f ∈ fs, FrOk f
  pos : ∀ f ∈ fs.tail, 0 < f.left
  runs : ∀ T0 y, (wfT T0 ∧ l.drop p = encT T0 ++ y) ↔ Runs fs (l.drop q) T0 y
  mode : MatchAll true fs Ls ∨ (65537 ≤ nodesB Ls ∧ 65537 ≤ nodesF fs)
  nb : nodesB Ls ≤ nodesF fs
  nq : nodesF fs ≤ q
  pq : p < q
theorem TmInv.ne {w0 w : World} {R : Nat} {v : Value} {l : List UInt8} {p tb gl cap : Nat} {fs : List Fr} {Ls : List Bl} {q : Nat} {G : Nat → Prop} {h : Nat} (hi : TmInv w0 w R v l p tb gl cap fs Ls q G h) : ∃ L r, Ls = L :: r := by
  cases Ls with
  | nil => exact hi.mem.stk.elim
  | cons L r => exact ⟨L, r, rfl⟩

/-- all is read -/
structure TmDone (w0 w : World) (R : Nat) (v : Value) (l : List UInt8) (p tb : Nat) (q : Nat) (G : Nat → Prop) (h : Nat) (L : Bl) (T : Tm) : Prop where
  rd : RAt w R v l q
  kp : Kp (fun q => q = R) w0 w
  lev : LevOk w0.heap.size G w h L
  at' : L.b = tb ∧ L.o = 0 ∧ L.ch = 0
  sep : Sep w0.heap.size G w tb [L]
  runs : ∀ T0 y, (wfT T0 ∧ l.drop p = encT T0 ++ y) ↔ (T0 = T ∧ l.drop q = y)
  mode : L.tm = T ∨ (65537 ≤ tsize L.tm ∧ 65537 ≤ tsize T)
  pq : p < q
section
variable {w0 w : World} {R : Nat} {v : Value} {l : List UInt8} {p tb gl cap q : Nat} {fs : List Fr} {Ls : List Bl} {G : Nat → Prop} {h : Nat}
/-- the innermost level is whole: there are others -/
theorem TmInv.pop {f g : Fr} {r : List Fr} (hi : TmInv w0 w R v l p tb gl cap (f :: g :: r) Ls q G h) (h0 : f.left = 0) (h1 : f.lst = false) :
    ∃ Ls' G' h', TmInv w0 w R v l p tb gl cap (g.push f.tm :: r) Ls' q G' h' := by
  have hg : 0 < g.left := hi.pos g (by simp)
  have hrow : w.ownsRow w0.heap.size 133 4 (.slice (some ⟨gl, 0, none⟩) (r.length + 1) cap) (r.length + 1) (lvRow true (g.push f.tm :: r) (ptrs (r.length + 2) Ls).tail) := by
    have := hi.row
    rw [List.length_cons, List.length_cons, lvRow, lvRow_pop g r _ f.tm hg] at this
    exact top_cut this (lvRow_len _ _ _)
  have hok : ∀ x ∈ g.push f.tm :: r, FrOk x := fun x hx => by
    rcases List.mem_cons.1 hx with rfl | hx
    · exact (hi.ok g (by simp)).push _
    · exact hi.ok x (by simp [hx])
  have hpos : ∀ x ∈ (g.push f.tm :: r).tail, 0 < x.left := fun x hx => hi.pos x (by simp at hx ⊢; exact .inr hx)
  have hruns : ∀ T0 y, (wfT T0 ∧ l.drop p = encT T0 ++ y) ↔ Runs (g.push f.tm :: r) (l.drop q) T0 y := fun T0 y => (hi.runs T0 y).trans (Runs.pop h0 h1 T0 y)
  have hnf := nodesF_pop f g r
  by_cases hl : Ls.length = r.length + 2
  · obtain ⟨C, P, Lr, rfl⟩ : ∃ C P Lr, Ls = C :: P :: Lr := by
      match Ls, hl with
      | C :: P :: Lr, _ => exact ⟨C, P, Lr, rfl⟩
      | [_], hl => simp at hl
    simp only [List.length_cons] at hl
    have hlr : Lr.length = r.length := by omega
    have hnb := nodesB_pop C P Lr
    obtain ⟨e1, e2, _, _⟩ := Bl.took_b P C.tm
    refine ⟨P.took C.tm :: Lr, Gx G C, h + 1, hi.rd, hi.kp, hi.mem.pop, ?_, by simp; omega, hok, hpos, hruns, ?_, by have := hi.nb; omega, by have := hi.nq; omega, hi.pq⟩
    · rw [show ptrs (g.push f.tm :: r).length (P.took C.tm :: Lr) = (ptrs (r.length + 2) (C :: P :: Lr)).tail by
        rw [List.length_cons, ptrs_same _ Lr e1 e2, (ptrs_full (r.length + 1) C (P :: Lr) (by simp; omega)).1]]
      exact hrow
    · rcases hi.mode with hm | ⟨m1, m2⟩
      · exact .inl hm.pop
      · exact .inr ⟨by omega, by omega⟩
  · have hlen := hi.len
    simp only [List.length_cons] at hlen
    refine ⟨Ls, G, h, hi.rd, hi.kp, hi.mem, ?_, by simp; omega, hok, hpos, hruns, ?_, by have := hi.nb; omega, by have := hi.nq; omega, hi.pq⟩
    · rw [List.length_cons, ← ptrs_tail (r.length + 1) Ls (by omega)]
      exact hrow
    · rcases hi.mode with hm | ⟨m1, m2⟩
      · exact absurd hm.len (by simp; omega)
      · exact .inr ⟨m1, by omega⟩
theorem TmInv.last {f : Fr} (hi : TmInv w0 w R v l p tb gl cap [f] Ls q G h) (h0 : f.left = 0) (h1 : f.lst = false) : ∃ L, TmDone w0 w R v l p tb q G h L f.tm := by
  obtain ⟨L, r, rfl⟩ := hi.ne
  have hlen := hi.len
  obtain rfl : r = [] := by simpa using hlen
  refine ⟨L, hi.rd, hi.kp, hi.mem.stk.1, ⟨hi.mem.stk.2.1, hi.mem.stk.2.2, hi.mem.hd L _ rfl⟩, hi.mem.sep, fun T0 y => (hi.runs T0 y).trans (Runs.last h0 h1 T0 y), ?_, hi.pq⟩
  rcases hi.mode with hm | ⟨m1, m2⟩
  · exact .inl hm.1.tm
  · refine .inr ⟨Nat.le_trans ?_ (cnt_le L.tm), Nat.le_trans ?_ (cnt_le f.tm)⟩
    · simpa [nodesB, Bl.tm_cnt] using m1
    · simpa [nodesF, Fr.tm_cnt] using m2
/-- what is there stays, behind a new draw or new blocks -/
theorem TmInv.kp' {w' : World} (hi : TmInv w0 w R v l p tb gl cap fs Ls q G h) (hk : Kp (fun _ => False) w w') : TmInv w0 w' R v l p tb gl cap fs Ls q G h :=
  ⟨hi.rd.kp hk, hi.kp.trans' (hk.mono fun _ _ e => e.elim), hi.mem.kp (hk.mono fun _ _ e => e.elim), hk.row hi.row (fun _ _ e => e), hi.len, hi.ok, hi.pos, hi.runs, hi.mode, hi.nb, hi.nq, hi.pq⟩
end
end Go.Proofs.YtaeoohjgdkablaaDoor

/- What is under way while a term is read: a Rest, or none. -/
namespace Go.Proofs.YtaeoohjgdkablaaDoor
open Go.RowKit

section
variable {w0 w w' : World} {R : Nat} {v : Value} {l : List UInt8} {p tb gl cap q : Nat} {f : Fr} {r : List Fr} {Ls : List Bl} {G : Nat → Prop} {h : Nat}
theorem TmInv.glw {fs : List Fr} (hi : TmInv w0 w R v l p tb gl cap (f :: fs) Ls q G h) : w0.heap.size ≤ gl ∧ gl < w.heap.size ∧ R < gl := by
  have h1 := hi.row.lt gl rfl
  have := hi.mem.rw'
  exact ⟨h1.1, h1.2, by omega⟩
theorem TmInv.split (hi : TmInv w0 w R v l p tb gl cap (f :: r) Ls q G h) : w.ownsRow w0.heap.size 133 4 (.slice (some ⟨gl, 0, none⟩) (r.length + 1) cap) (r.length + 1) (lvRow false r (ptrs (r.length + 1) Ls).tail ++ LvD.cells ⟨(ptrs (r.length + 1) Ls).headD (.pointer none), f.left, f.lst, f.inR⟩) := by
  have := hi.row
  rw [List.length_cons, lvRow] at this
  exact this
theorem TmInv.top (hi : TmInv w0 w R v l p tb gl cap (f :: r) Ls q G h) : LvAt w gl (r.length * 4) ⟨(ptrs (r.length + 1) Ls).headD (.pointer none), f.left, f.lst, f.inR⟩ :=
  top_at hi.split (lvRow_len _ _ _)
/-- the innermost level's own cells are turned -/
theorem TmInv.turn {g : Fr} {w1 : World} {q' : Nat} (hi : TmInv w0 w R v l p tb gl cap (f :: r) Ls q G h) (hk1 : Kp (fun x => x = gl) w w1) (hk2 : Kp (fun x => x = R) w1 w') (hr : RAt w' R v l q')
    (hrow : w1.ownsRow w0.heap.size 133 4 (.slice (some ⟨gl, 0, none⟩) (r.length + 1) cap) (r.length + 1) (lvRow false r (ptrs (r.length + 1) Ls).tail ++ LvD.cells ⟨(ptrs (r.length + 1) Ls).headD (.pointer none), g.left, g.lst, g.inR⟩))
    (hok : FrOk g) (hruns : ∀ T0 y, Runs (f :: r) (l.drop q) T0 y ↔ Runs (g :: r) (l.drop q') T0 y) (hq : q ≤ q') (e1 : g.hd = f.hd) (e2 : g.its = f.its) (e3 : g.res = f.res) : TmInv w0 w' R v l p tb gl cap (g :: r) Ls q' G h := by
  obtain ⟨g1, g2, g3⟩ := hi.glw
  have hn : g.nodes = f.nodes := by rw [Fr.nodes, Fr.nodes, e2, e3]
  have hnf : nodesF (g :: r) = nodesF (f :: r) := by simp only [nodesF, List.map_cons, List.sum_cons, hn]
  refine ⟨hr, (kp_new hi.kp (hk1.mono fun x _ e => .inr (by omega))).trans' hk2, hi.mem.kp ((hk1.mono fun _ _ e => .inr e).trans' (hk2.mono fun _ _ e => .inl e)), ?_, hi.len, fun x hx => ?_, hi.pos, fun T0 y => (hi.runs T0 y).trans (hruns T0 y), ?_, by rw [hnf]; exact hi.nb, by rw [hnf]; exact Nat.le_trans hi.nq hq, Nat.lt_of_lt_of_le hi.pq hq⟩
  · have := hk2.row hrow (fun x e e2 => by have e := Option.some.inj e; simp only at e; omega)
    rw [List.length_cons, lvRow]
    exact this
  · rcases List.mem_cons.1 hx with rfl | hx
    · exact hok
    · exact hi.ok x (List.mem_cons_of_mem _ hx)
  · rcases hi.mode with hm | ⟨m1, m2⟩
    · left
      cases Ls with
      | nil => exact hm.elim
      | cons L Ls =>
        refine ⟨?_, hm.2⟩
        obtain ⟨a1, a2, a3, a4, a5, a6, a7⟩ := hm.1
        exact ⟨by rw [e1]; exact a1, by rw [e1]; exact a2, by rw [e1]; exact a3, by rw [e1]; exact a4, by rw [e2]; exact a5, by rw [e3]; exact a6, a7⟩
    · exact .inr ⟨m1, by rw [hnf]; exact m2⟩
theorem TmInv.shut (hi : TmInv w0 w R v l p tb gl cap (f :: r) Ls q G h) (h0 : f.left = 0) (h1 : f.lst = true) (hc : l[q]? = some 0) (hr : RAt w' R v l (q + 1)) (hk : Kp (fun x => x = R) (w.setCell ⟨gl, r.length * 4 + 2, none⟩ (.bool false)) w') :
    TmInv w0 w' R v l p tb gl cap (f.shut :: r) Ls (q + 1) G h := by
  have hrow := top_set hi.split (lvRow_len _ _ _) 2 (.bool false)
  refine hi.turn ((Kp.refl (fun x => x = gl) w).setCell _ _ (.inl rfl)) hk hr hrow ⟨fun e => (by cases e), (hi.ok f List.mem_cons_self).2⟩ (fun T0 y => ?_) (by omega) rfl rfl rfl
  rw [drop_cons hc]
  exact Runs.congr (fun T y => Fin.shut h0 h1) T0 y
theorem TmInv.opened (hi : TmInv w0 w R v l p tb gl cap (f :: r) Ls q G h) (h0 : f.left = 0) (h1 : f.lst = true) (hc : l[q]? = some 1) (hr : RAt w' R v l (q + 1))
    (hk : Kp (fun x => x = R) (((w.setCell ⟨gl, r.length * 4 + 2, none⟩ (.bool false)).setCell ⟨gl, r.length * 4 + 1, none⟩ (.int .i64 1)).setCell ⟨gl, r.length * 4 + 3, none⟩ (.bool true)) w') :
    TmInv w0 w' R v l p tb gl cap (f.opened :: r) Ls (q + 1) G h := by
  have hrow := top_set (top_set (top_set hi.split (lvRow_len _ _ _) 2 (.bool false)) (lvRow_len _ _ _) 1 (.int .i64 1)) (lvRow_len _ _ _) 3 (.bool true)
  refine hi.turn ((((Kp.refl (fun x => x = gl) w).setCell _ _ (.inl rfl)).setCell _ _ (.inl rfl)).setCell _ _ (.inl rfl)) hk hr hrow ⟨fun e => (by cases e), by show (1 : Nat) ≤ _; omega⟩ (fun T0 y => ?_) (by omega) rfl rfl rfl
  have hf := (hi.ok f List.mem_cons_self).1 h1
  rw [drop_cons hc]
  exact Runs.congr (fun T y => Fin.open' h0 h1 hf.1 hf.2) T0 y
/-- no byte for a Rest: no term -/
theorem TmInv.noRest (hi : TmInv w0 w R v l p tb gl cap (f :: r) Ls q G h) (h0 : f.left = 0) (h1 : f.lst = true) (hc : l[q]? ≠ some 0 ∧ l[q]? ≠ some 1) (T0 : Tm) (y : List UInt8) (hw : wfT T0) : l.drop p ≠ encT T0 ++ y := by
  intro e
  obtain ⟨T, x', hF, _⟩ := (hi.runs T0 y).1 ⟨hw, e⟩
  refine Fin.bad h0 h1 (fun z => ⟨fun e => hc.1 ?_, fun e => hc.2 ?_⟩) hF
  · have := congrArg (fun x : List UInt8 => x[0]?) e
    simpa using this
  · have := congrArg (fun x : List UInt8 => x[0]?) e
    simpa using this
end
end Go.Proofs.YtaeoohjgdkablaaDoor

/- What is under way while a term is read: a part is begun. -/
namespace Go.Proofs.YtaeoohjgdkablaaDoor
open Go.RowKit

/-- behind lay: the part is laid, its level is not in the row yet -/
structure TmMid (w0 w : World) (R : Nat) (v : Value) (l : List UInt8) (tb gl cap : Nat) (d : Hd) (f : Fr) (r : List Fr) (Ls : List Bl) (q : Nat) (G : Nat → Prop) (h : Nat) : Prop where
  rd : RAt w R v l q
  kp : Kp (fun q => q = R) w0 w
  mem : TmMem w0.heap.size G w h tb gl R Ls
  row : w.ownsRow w0.heap.size 133 4 (.slice (some ⟨gl, 0, none⟩) (r.length + 1) cap) (r.length + 1) (lvRow false (f :: r) (ptrs (r.length + 2) Ls).tail)
  len : Ls.length ≤ r.length + 2
  mode : MatchAll true (Fr.of d :: f :: r) Ls ∨ (65537 ≤ nodesB Ls ∧ 65537 ≤ nodesF (Fr.of d :: f :: r))
  nb : nodesB Ls ≤ nodesF (Fr.of d :: f :: r)

theorem Hd.wf.rng {d : Hd} (h : d.wf) : isI64 d.k ∧ isI64 d.n ∧ d.s.size ≤ maxLen := by
  have hk := h.kind
  have hz : -9223372036854775808 ≤ d.n ∧ d.n ≤ 9223372036854775807 := by
    unfold Hd.wf at h
    rcases h with h | h | h | h | h
    · have := h.2.1
      unfold zig at this
      split at this <;> omega
    all_goals omega
  have hs : d.s.size ≤ 1099511627776 := by
    unfold Hd.wf at h
    have h0 : d.s = ByteArray.empty → d.s.size = 0 := fun e => by rw [e]; rfl
    rcases h with h | h | h | h | h
    · have := h0 h.2.2.1; omega
    · exact h.2.1
    · have := h0 h.2.2.2.1; omega
    · have := h0 h.2.2.1; omega
    · have := h0 h.2.2.2.1; omega
  unfold isI64
  exact ⟨by omega, hz, by unfold maxLen; omega⟩
theorem len_cnts : ∀ l : List Tm, l.length ≤ cnts l
  | [] => by simp
  | t :: l => by
    have h1 := len_cnts l
    have h2 : 1 ≤ cnt t := by cases t; rw [cnt]; omega
    rw [List.length_cons, cnts]; omega
theorem Fr.of_nodes (d : Hd) : (Fr.of d).nodes = 1 := by simp [Fr.nodes, Fr.of, cnts]
theorem nodesF_of (d : Hd) (fs : List Fr) : nodesF (Fr.of d :: fs) = nodesF fs + 1 := by
  simp only [nodesF, List.map_cons, List.sum_cons, Fr.of_nodes]; omega
theorem newBl_nodes (g o : Nat) (d : Hd) (vb : Value) : (newBl g o d vb).nodes = 1 := by simp [Bl.nodes, newBl, cnts]

section
variable {w0 w wb wx : World} {R : Nat} {v : Value} {l : List UInt8} {p tb gl cap q q' : Nat} {f : Fr} {r : List Fr} {Ls : List Bl} {G : Nat → Prop} {h : Nat}
/-- what is there, behind a head that was read -/
theorem TmInv.begun (hi : TmInv w0 w R v l p tb gl cap (f :: r) Ls q G h) (hk : Kp (fun x => x = R) w wb) : TmMem w0.heap.size (fun x => G x ∨ Own w.heap.size wb x) wb (h + 1) tb gl R Ls := by
  obtain ⟨g1, g2, g3⟩ := hi.glw
  have hm := hi.mem.kp (hk.mono fun _ _ e => .inl e)
  refine ⟨hm.stk.up (fun _ e => .inl e), ⟨hm.sep.nd, hm.sep.lo, fun x hx e => ?_, fun x e => ?_⟩, hm.hd, hm.gn, fun e => ?_, hm.rw'⟩
  · rcases e with e | e
    · exact hm.sep.ng x hx e
    · have := (hi.mem.sep.lo x hx).2; have := e.1; omega
  · rcases e with e | e
    · exact hm.sep.gl x e
    · have := hi.kp.size; have := e.1; have := e.2; exact ⟨by omega, by omega⟩
  · rcases e with e | e
    · exact hm.gg e
    · have := e.1; omega
/-- the innermost level's count goes down -/
theorem left_row {wy : World} (hi : TmInv w0 w R v l p tb gl cap (f :: r) Ls q G h) (hk : Kp (fun x => x = R) w wx) (hy : Kp (fun x => x ≠ gl) (wx.setCell ⟨gl, r.length * 4 + 1, none⟩ (.int .i64 ((f.left : Int) - 1))) wy) :
    wy.ownsRow w0.heap.size 133 4 (.slice (some ⟨gl, 0, none⟩) (r.length + 1) cap) (r.length + 1) (lvRow false (f :: r) (ptrs (r.length + 1) Ls)) := by
  obtain ⟨g1, g2, g3⟩ := hi.glw
  have h1 := hk.row hi.split (fun x e e2 => by have e := Option.some.inj e; simp only at e; omega)
  have h2 := top_set h1 (lvRow_len _ _ _) 1 (.int .i64 ((f.left : Int) - 1))
  have h3 := hy.row h2 (fun x e e2 => e2 (by have e := Option.some.inj e; exact e.symm))
  rw [lvRow]
  exact h3
end
end Go.Proofs.YtaeoohjgdkablaaDoor
