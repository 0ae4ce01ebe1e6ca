/- lay, at what is under way while a term is read. While a term is read: a part more. -/
import Derived.Test.YtaeoohjgdkablaaDoorM23
/- lay, at what is under way while a term is read. -/
namespace Go.Proofs.YtaeoohjgdkablaaDoor
open Go.RowKit

theorem row_form {W0 m : Nat} {w : World} {v : Value} {xs : List Value} (ho : w.ownsRow W0 25 6 v m xs) : ∃ po vc, v = .slice po m vc := by
  rcases ho.2 with ⟨e, h0⟩ | ⟨g, cap, cur, e, _⟩
  · exact ⟨none, 0, by rw [e, h0]⟩
  · exact ⟨_, cap, e⟩
theorem ptr_of (n : Nat) (Ls : List Bl) (h : Ls.length < n) : (ptrs n Ls).headD (.pointer none) = .pointer none := by
  obtain ⟨m, rfl⟩ : ∃ m, n = m + 1 := ⟨n - 1, by omega⟩
  rw [ptrs_down m Ls (by omega)]; rfl
theorem ptr_full (n : Nat) (T : Bl) (Ls : List Bl) (h : Ls.length = n) : (ptrs (n + 1) (T :: Ls)).headD (.pointer none) = T.ptr := by
  rw [ptrs_new n T Ls h]; rfl

section
variable {w0 w wb wx : World} {R : Nat} {v : Value} {l : List UInt8} {p tb gl cap q q' : Nat} {f : Fr} {r : List Fr} {Ls : List Bl} {G : Nat → Prop} {h : Nat}

def LayTo (w0 wb wx : World) (R : Nat) (v : Value) (l : List UInt8) (tb gl cap : Nat) (d : Hd) (f : Fr) (r : List Fr) (q' : Nat) (e : Ending) (w' : World) : Prop :=
  ∃ po Ls' G' h', e = .returned (.pointer po) ∧ TmMid w0 w' R v l tb gl cap d f r Ls' q' G' h' ∧ (ptrs (r.length + 2) Ls').headD (.pointer none) = .pointer po ∧ Kp (fun x => x < wb.heap.size) wx w'

/-- nothing is laid -/
theorem lay_mid_skip (hi : TmInv w0 w R v l p tb gl cap (f :: r) Ls q G h) (hk : Kp (fun x => x = R) w wb) (hx : Kp (fun _ => False) wb wx) (hr : RAt wb R v l q') (d : Hd) (po : Option Addr) (n c : Nat)
    (hs : (ptrs (r.length + 1) Ls).headD (.pointer none) = .pointer none ∨ ((∃ x, (ptrs (r.length + 1) Ls).headD (.pointer none) = .pointer (some x)) ∧ 65536 < nodesF (f :: r) ∧ f.inR = false))
    (hsp : 65537 ≤ nodesB Ls ∧ 65537 ≤ nodesF (f :: r)) :
    Calls Tryd.prog 62 #[.pointer (some ⟨gl, r.length * 4, none⟩), .agg #[.int .i64 d.k, .int .i64 d.n, .string d.s, .slice none 0 0, .slice none 0 0, .slice po n c], .int .i64 (nodesF (f :: r) : Nat)] wx (LayTo w0 wb wx R v l tb gl cap d f r q') := by
  obtain ⟨g1, g2, g3⟩ := hi.glw
  have hkx : Kp (fun x => x = R) w wx := hk.trans' (hx.mono fun _ _ e => e.elim)
  have htop := hi.top.kp hkx (by omega)
  have hle : f.left ≤ 1099511627776 := (hi.ok f List.mem_cons_self).2
  refine (lay_skip htop (by simp only; omega) (by simp only; omega) d.k d.n d.s none none po 0 0 0 0 n c (nodesF (f :: r)) hs).mono ?_
  rintro e w' ⟨rfl, hk'⟩
  have hmem := (hi.begun hk).kp (hx.mono fun _ _ e => e.elim)
  have hset : Kp (fun x => x = gl) wx (wx.setCell ⟨gl, r.length * 4 + 1, none⟩ (.int .i64 ((f.left : Int) - 1))) := (Kp.refl (fun x => x = gl) wx).setCell _ _ (.inl rfl)
  have hglb : gl < wb.heap.size := Nat.lt_of_lt_of_le g2 hk.size
  have hlen := hi.len
  simp only [List.length_cons] at hlen
  refine ⟨none, Ls, fun x => G x ∨ Own w.heap.size wb x, h + 1, rfl, ⟨?_, ?_, ?_, ?_, by omega, .inr ⟨hsp.1, by rw [nodesF_of]; omega⟩, by rw [nodesF_of]; exact Nat.le_trans hi.nb (Nat.le_succ _)⟩, ptr_of _ _ (by omega), ?_⟩
  · exact ((hr.kp hx).other g3 _ _).kp hk'
  · exact (kp_new (hi.kp.trans' hkx) (hset.mono fun x _ e => .inr (by omega))).trans' (hk'.mono fun _ _ e => e.elim)
  · exact hmem.kp ((hset.mono fun _ _ e => .inr e).trans' (hk'.mono fun _ _ e => e.elim))
  · rw [ptrs_tail (r.length + 1) Ls (by omega)]
    exact left_row hi hkx (hk'.mono fun _ _ e => e.elim)
  · exact (hset.mono fun x _ e => by omega).trans' (hk'.mono fun _ _ e => e.elim)

set_option maxHeartbeats 1000000 in
/-- the part is laid in the items -/
theorem lay_mid_items {T : Bl} {Lr : List Bl} (hi : TmInv w0 w R v l p tb gl cap (f :: r) (T :: Lr) q G h) (hk : Kp (fun x => x = R) w wb) (hx : Kp (fun _ => False) wb wx) (hr : RAt wb R v l q') {d : Hd} (hd : d.wf) {po : Option Addr} {n c : Nat}
    (hy : BytesAt (Own w.heap.size wb) wb d.bys (.slice po n c)) (hLr : Lr.length = r.length) (hR : f.inR = false) (hmet : ¬ 65536 < nodesF (f :: r)) (hl : l.length ≤ 1000000000) :
    Calls Tryd.prog 62 #[.pointer (some ⟨gl, r.length * 4, none⟩), .agg #[.int .i64 d.k, .int .i64 d.n, .string d.s, .slice none 0 0, .slice none 0 0, .slice po n c], .int .i64 (nodesF (f :: r) : Nat)] wx (LayTo w0 wb wx R v l tb gl cap d f r q') := by
  obtain ⟨g1, g2, g3⟩ := hi.glw
  have hkx : Kp (fun x => x = R) w wx := hk.trans' (hx.mono fun _ _ e => e.elim)
  have htop := hi.top.kp hkx (by omega)
  have hle : f.left ≤ 1099511627776 := (hi.ok f List.mem_cons_self).2
  have hmem := (hi.begun hk).kp (hx.mono fun _ _ e => e.elim)
  obtain ⟨hT, hU⟩ := stk_iff.1 hmem.stk
  have hc0 := hmem.hd T Lr rfl
  have hrow := hT.ri
  rw [hc0, if_neg (by omega), Nat.add_zero] at hrow
  obtain ⟨_, _, xs, hxs, hel⟩ := hrow
  obtain ⟨vp, vc, hvi⟩ := row_form hxs
  have hptr := ptr_full r.length T Lr hLr
  rw [hptr] at htop
  have hnq := hi.nq
  have hql := hi.rd.le
  have hnb := hi.nb
  have hlenT : T.its.length ≤ nodesB (T :: Lr) := by
    have := len_cnts T.its
    simp only [nodesB, List.map_cons, List.sum_cons, Bl.nodes]; omega
  have hTv : T.vi.ownBlock ≠ some T.b := by
    intro e
    have hm : T.b ∈ T.rows := by simp [Bl.rows, e]
    have hnd := hmem.sep.nd
    rw [rowsOf_cons, List.nodup_cons] at hnd
    rcases hU.hb with e2 | e2
    · exact hnd.1 (List.mem_append_left _ (e2 ▸ hm))
    · exact (List.nodup_append.1 hnd.2).2.2 _ hm _ e2 rfl
  have hW : w0.heap.size ≤ wx.heap.size := (hi.kp.trans' hkx).size
  have hcT := hT.c3
  rw [hvi] at hcT hTv hxs
  refine (lay_items htop (by simp only; omega) (by simp only; omega) (b := T.b) (bo := T.o) rfl hR d.k d.n d.s none none po 0 0 0 0 n c (nodesF (f :: r)) (by omega) (by omega) hT.blk hcT hxs hTv hW (by omega)).mono ?_
  rintro e w' ⟨gg, cp, rfl, p1, p2, p3, p4⟩
  have hglT : gl ≠ T.b := fun e => hmem.gn (e ▸ by
    rcases hU.hb with e2 | e2
    · rw [e2]; exact List.mem_cons_self
    · exact List.mem_cons_of_mem _ (by rw [rowsOf_cons]; exact List.mem_append_right _ e2))
  have hglv : ∀ x, (Value.slice vp T.its.length vc).ownBlock = some x → x ∈ tb :: rowsOf (T :: Lr) := fun x e => List.mem_cons_of_mem _ (by rw [rowsOf_cons]; exact List.mem_append_left _ (by simp only [Bl.rows, List.mem_append]; exact .inl (by rw [hvi]; simp [e])))
  obtain ⟨s1, s2⟩ := put_items hT hU hmem.sep hc0 hmem.gn hmem.gg rfl hel (by rw [← hvi] at hxs; exact p1) hxs.1 (by rw [hvi]; exact p2) p3 (by rw [hvi]; exact p4) (by omega) hd.rng ((bytes_kp hy hx (fun _ _ e => e)).imp (fun x e => .inr e) (fun _ _ _ _ e => e))
  have hset : Kp (fun x => x = gl) wx (wx.setCell ⟨gl, r.length * 4 + 1, none⟩ (.int .i64 ((f.left : Int) - 1))) := (Kp.refl (fun x => x = gl) wx).setCell _ _ (.inl rfl)
  have hset2 := ((Kp.refl (fun x => x = T.b) (wx.setCell ⟨gl, r.length * 4 + 1, none⟩ (.int .i64 ((f.left : Int) - 1)))).setCell ⟨T.b, T.o + 3, none⟩ (.slice (some ⟨gg, 0, none⟩) (T.its.length + 1) cp) (.inl rfl))
  have hkA : Kp (fun x => x ∈ tb :: rowsOf (T :: Lr)) (wx.setCell ⟨gl, r.length * 4 + 1, none⟩ (.int .i64 ((f.left : Int) - 1))) w' := (hset2.mono fun x _ e => by
    rw [e]
    rcases hU.hb with e2 | e2
    · rw [e2]; exact List.mem_cons_self
    · exact List.mem_cons_of_mem _ (by rw [rowsOf_cons]; exact List.mem_append_right _ e2)).trans' (p4.mono fun x _ e => hglv x e)
  have hglb : gl < wb.heap.size := Nat.lt_of_lt_of_le g2 hk.size
  have hin : ∀ x ∈ tb :: rowsOf (T :: Lr), w0.heap.size ≤ x ∧ x < wb.heap.size := fun x hx => (hi.begun hk).sep.lo x hx
  have hzb : wb.heap.size ≤ wx.heap.size := hx.size
  have hgn : gl ≠ gg := by
    rcases p2 with e | e
    · exact fun e2 => hmem.gn (e2 ▸ hglv gg e)
    · omega
  have hrow' : w'.ownsRow w0.heap.size 133 4 (.slice (some ⟨gl, 0, none⟩) (r.length + 1) cap) (r.length + 1) (lvRow false (f :: r) (ptrs (r.length + 1) (T :: Lr))) :=
    left_row hi hkx (hkA.mono fun x _ e e2 => hmem.gn (e2 ▸ e))
  have hrd : RAt w' R v l q' := by
    have h1 := (hr.kp hx).other g3 (r.length * 4 + 1) (.int .i64 ((f.left : Int) - 1))
    have hRr := hi.mem.rw'
    exact ⟨(hkA.block R (Array.getElem?_eq_some_iff.1 h1.cells).1 (fun e => by have := (hin R e).1; omega)).trans h1.cells, bytes_kp h1.bytes hkA (fun x e e2 => by have := (hin x e2).1; omega), h1.le⟩
  have hkp : Kp (fun q => q = R) w0 w' := kp_new (kp_new (hi.kp.trans' hkx) (hset.mono fun x _ e => .inr (by omega))) (hkA.mono fun x _ e => .inr (hin x e).1)
  have hkb : Kp (fun x => x < wb.heap.size) wx w' := (hset.mono fun x _ e => by omega).trans' (hkA.mono fun x _ e => (hin x e).2)
  have hgn2 : gl ∉ tb :: rowsOf (newBl gg (T.its.length * 6) d (.slice po n c) :: { T with vi := .slice (some ⟨gg, 0, none⟩) (T.its.length + 1) cp, ch := 1 } :: Lr) := fun e => by
    rw [rowsOf_cons, rowsOf_cons] at e
    simp only [newBl, Bl.rows, Value.ownBlock, Option.toList, List.nil_append, List.mem_cons, List.mem_append, List.not_mem_nil, or_false] at e
    have hmg := hmem.gn
    rw [rowsOf_cons] at hmg
    simp only [Bl.rows, List.mem_cons, List.mem_append, not_or] at hmg
    rcases e with e | (e | e) | e
    · exact hmg.1 e
    · exact hgn e
    · exact hmg.2.1.2 e
    · exact hmg.2.2 e
  refine ⟨_, _, _, _, rfl, ⟨hrd, hkp, ⟨s1, s2, fun L r e => by injection e with e _; rw [← e]; rfl, hgn2, hmem.gg, hmem.rw'⟩, ?_, by simp; omega, ?_, ?_⟩, ptr_full _ _ _ (by simp; omega), hkb⟩
  · rw [(ptrs_full (r.length + 1) _ _ (by simp; omega)).1, ptrs_same (r.length + 1) (C := T) (C' := { T with vi := .slice (some ⟨gg, 0, none⟩) (T.its.length + 1) cp, ch := 1 }) Lr rfl rfl]
    exact hrow'
  · rcases hi.mode with hm | ⟨m1, m2⟩
    · left
      obtain ⟨⟨a1, a2, a3, a4, a5, a6, a7⟩, hm2⟩ := hm
      exact ⟨⟨rfl, rfl, rfl, rfl, rfl, rfl, rfl⟩, ⟨a1, a2, a3, a4, a5, a6, by simp [hR]⟩, hm2⟩
    · omega
  · rw [nodesF_of]
    have e : nodesB (newBl gg (T.its.length * 6) d (.slice po n c) :: { T with vi := .slice (some ⟨gg, 0, none⟩) (T.its.length + 1) cp, ch := 1 } :: Lr) = nodesB (T :: Lr) + 1 := by
      have h2 : Bl.nodes { T with vi := .slice (some ⟨gg, 0, none⟩) (T.its.length + 1) cp, ch := 1 } = T.nodes := rfl
      simp only [nodesB, List.map_cons, List.sum_cons, newBl_nodes, h2]; omega
    omega

set_option maxHeartbeats 1000000 in
/-- the part is laid in Rest -/
theorem lay_mid_rest {T : Bl} {Lr : List Bl} (hi : TmInv w0 w R v l p tb gl cap (f :: r) (T :: Lr) q G h) (hk : Kp (fun x => x = R) w wb) (hx : Kp (fun _ => False) wb wx) (hr : RAt wb R v l q') {d : Hd} (hd : d.wf) {po : Option Addr} {n c : Nat}
    (hy : BytesAt (Own w.heap.size wb) wb d.bys (.slice po n c)) (hLr : Lr.length = r.length) (hR : f.inR = true) (hmet : ¬ 65536 < nodesF (f :: r)) (hl : l.length ≤ 1000000000) :
    Calls Tryd.prog 62 #[.pointer (some ⟨gl, r.length * 4, none⟩), .agg #[.int .i64 d.k, .int .i64 d.n, .string d.s, .slice none 0 0, .slice none 0 0, .slice po n c], .int .i64 (nodesF (f :: r) : Nat)] wx (LayTo w0 wb wx R v l tb gl cap d f r q') := by
  obtain ⟨g1, g2, g3⟩ := hi.glw
  have hkx : Kp (fun x => x = R) w wx := hk.trans' (hx.mono fun _ _ e => e.elim)
  have htop := hi.top.kp hkx (by omega)
  have hle : f.left ≤ 1099511627776 := (hi.ok f List.mem_cons_self).2
  have hmem := (hi.begun hk).kp (hx.mono fun _ _ e => e.elim)
  obtain ⟨hT, hU⟩ := stk_iff.1 hmem.stk
  have hc0 := hmem.hd T Lr rfl
  have hrow := hT.rr
  rw [hc0, if_neg (by omega), Nat.add_zero] at hrow
  obtain ⟨_, _, xs, hxs, hel⟩ := hrow
  obtain ⟨vp, vc, hvi⟩ := row_form hxs
  have hptr := ptr_full r.length T Lr hLr
  rw [hptr] at htop
  have hnq := hi.nq
  have hql := hi.rd.le
  have hnb := hi.nb
  have hlenT : T.res.length ≤ nodesB (T :: Lr) := by
    have := len_cnts T.res
    simp only [nodesB, List.map_cons, List.sum_cons, Bl.nodes]; omega
  have hTv : T.vr.ownBlock ≠ some T.b := by
    intro e
    have hm : T.b ∈ T.rows := by simp [Bl.rows, e]
    have hnd := hmem.sep.nd
    rw [rowsOf_cons, List.nodup_cons] at hnd
    rcases hU.hb with e2 | e2
    · exact hnd.1 (List.mem_append_left _ (e2 ▸ hm))
    · exact (List.nodup_append.1 hnd.2).2.2 _ hm _ e2 rfl
  have hW : w0.heap.size ≤ wx.heap.size := (hi.kp.trans' hkx).size
  have hcT := hT.c4
  rw [hvi] at hcT hTv hxs
  refine (lay_rest htop (by simp only; omega) (by simp only; omega) (b := T.b) (bo := T.o) rfl hR d.k d.n d.s none none po 0 0 0 0 n c (nodesF (f :: r)) (by omega) (by omega) hT.blk hcT hxs hTv hW (by omega)).mono ?_
  rintro e w' ⟨gg, cp, rfl, p1, p2, p3, p4⟩
  have hglT : gl ≠ T.b := fun e => hmem.gn (e ▸ by
    rcases hU.hb with e2 | e2
    · rw [e2]; exact List.mem_cons_self
    · exact List.mem_cons_of_mem _ (by rw [rowsOf_cons]; exact List.mem_append_right _ e2))
  have hglv : ∀ x, (Value.slice vp T.res.length vc).ownBlock = some x → x ∈ tb :: rowsOf (T :: Lr) := fun x e => List.mem_cons_of_mem _ (by rw [rowsOf_cons]; exact List.mem_append_left _ (by simp only [Bl.rows, List.mem_append]; exact .inr (by rw [hvi]; simp [e])))
  obtain ⟨s1, s2⟩ := put_rest hT hU hmem.sep hc0 hmem.gn hmem.gg rfl hel (by rw [← hvi] at hxs; exact p1) hxs.1 (by rw [hvi]; exact p2) p3 (by rw [hvi]; exact p4) (by omega) hd.rng ((bytes_kp hy hx (fun _ _ e => e)).imp (fun x e => .inr e) (fun _ _ _ _ e => e))
  have hset : Kp (fun x => x = gl) wx (wx.setCell ⟨gl, r.length * 4 + 1, none⟩ (.int .i64 ((f.left : Int) - 1))) := (Kp.refl (fun x => x = gl) wx).setCell _ _ (.inl rfl)
  have hset2 := ((Kp.refl (fun x => x = T.b) (wx.setCell ⟨gl, r.length * 4 + 1, none⟩ (.int .i64 ((f.left : Int) - 1)))).setCell ⟨T.b, T.o + 4, none⟩ (.slice (some ⟨gg, 0, none⟩) (T.res.length + 1) cp) (.inl rfl))
  have hkA : Kp (fun x => x ∈ tb :: rowsOf (T :: Lr)) (wx.setCell ⟨gl, r.length * 4 + 1, none⟩ (.int .i64 ((f.left : Int) - 1))) w' := (hset2.mono fun x _ e => by
    rw [e]
    rcases hU.hb with e2 | e2
    · rw [e2]; exact List.mem_cons_self
    · exact List.mem_cons_of_mem _ (by rw [rowsOf_cons]; exact List.mem_append_right _ e2)).trans' (p4.mono fun x _ e => hglv x e)
  have hglb : gl < wb.heap.size := Nat.lt_of_lt_of_le g2 hk.size
  have hin : ∀ x ∈ tb :: rowsOf (T :: Lr), w0.heap.size ≤ x ∧ x < wb.heap.size := fun x hx => (hi.begun hk).sep.lo x hx
  have hzb : wb.heap.size ≤ wx.heap.size := hx.size
  have hgn : gl ≠ gg := by
    rcases p2 with e | e
    · exact fun e2 => hmem.gn (e2 ▸ hglv gg e)
    · omega
  have hrow' : w'.ownsRow w0.heap.size 133 4 (.slice (some ⟨gl, 0, none⟩) (r.length + 1) cap) (r.length + 1) (lvRow false (f :: r) (ptrs (r.length + 1) (T :: Lr))) :=
    left_row hi hkx (hkA.mono fun x _ e e2 => hmem.gn (e2 ▸ e))
  have hrd : RAt w' R v l q' := by
    have h1 := (hr.kp hx).other g3 (r.length * 4 + 1) (.int .i64 ((f.left : Int) - 1))
    have hRr := hi.mem.rw'
    exact ⟨(hkA.block R (Array.getElem?_eq_some_iff.1 h1.cells).1 (fun e => by have := (hin R e).1; omega)).trans h1.cells, bytes_kp h1.bytes hkA (fun x e e2 => by have := (hin x e2).1; omega), h1.le⟩
  have hkp : Kp (fun q => q = R) w0 w' := kp_new (kp_new (hi.kp.trans' hkx) (hset.mono fun x _ e => .inr (by omega))) (hkA.mono fun x _ e => .inr (hin x e).1)
  have hkb : Kp (fun x => x < wb.heap.size) wx w' := (hset.mono fun x _ e => by omega).trans' (hkA.mono fun x _ e => (hin x e).2)
  have hgn2 : gl ∉ tb :: rowsOf (newBl gg (T.res.length * 6) d (.slice po n c) :: { T with vr := .slice (some ⟨gg, 0, none⟩) (T.res.length + 1) cp, ch := 2 } :: Lr) := fun e => by
    rw [rowsOf_cons, rowsOf_cons] at e
    simp only [newBl, Bl.rows, Value.ownBlock, Option.toList, List.nil_append, List.mem_cons, List.mem_append, List.not_mem_nil, or_false] at e
    have hmg := hmem.gn
    rw [rowsOf_cons] at hmg
    simp only [Bl.rows, List.mem_cons, List.mem_append, not_or] at hmg
    rcases e with e | (e | e) | e
    · exact hmg.1 e
    · exact hmg.2.1.1 e
    · exact hgn e
    · exact hmg.2.2 e
  refine ⟨_, _, _, _, rfl, ⟨hrd, hkp, ⟨s1, s2, fun L r e => by injection e with e _; rw [← e]; rfl, hgn2, hmem.gg, hmem.rw'⟩, ?_, by simp; omega, ?_, ?_⟩, ptr_full _ _ _ (by simp; omega), hkb⟩
  · rw [(ptrs_full (r.length + 1) _ _ (by simp; omega)).1, ptrs_same (r.length + 1) (C := T) (C' := { T with vr := .slice (some ⟨gg, 0, none⟩) (T.res.length + 1) cp, ch := 2 }) Lr rfl rfl]
    exact hrow'
  · rcases hi.mode with hm | ⟨m1, m2⟩
    · left
      obtain ⟨⟨a1, a2, a3, a4, a5, a6, a7⟩, hm2⟩ := hm
      exact ⟨⟨rfl, rfl, rfl, rfl, rfl, rfl, rfl⟩, ⟨a1, a2, a3, a4, a5, a6, by simp [hR]⟩, hm2⟩
    · omega
  · rw [nodesF_of]
    have e : nodesB (newBl gg (T.res.length * 6) d (.slice po n c) :: { T with vr := .slice (some ⟨gg, 0, none⟩) (T.res.length + 1) cp, ch := 2 } :: Lr) = nodesB (T :: Lr) + 1 := by
      have h2 : Bl.nodes { T with vr := .slice (some ⟨gg, 0, none⟩) (T.res.length + 1) cp, ch := 2 } = T.nodes := rfl
      simp only [nodesB, List.map_cons, List.sum_cons, newBl_nodes, h2]; omega
    omega

set_option maxHeartbeats 1000000 in
/-- the part is laid in Rest, and gone no further into -/
theorem lay_mid_over {T : Bl} {Lr : List Bl} (hi : TmInv w0 w R v l p tb gl cap (f :: r) (T :: Lr) q G h) (hk : Kp (fun x => x = R) w wb) (hx : Kp (fun _ => False) wb wx) (hr : RAt wb R v l q') {d : Hd} (hd : d.wf) {po : Option Addr} {n c : Nat}
    (hy : BytesAt (Own w.heap.size wb) wb d.bys (.slice po n c)) (hLr : Lr.length = r.length) (hR : f.inR = true) (hmet : 65536 < nodesF (f :: r)) (hl : l.length ≤ 1000000000) :
    Calls Tryd.prog 62 #[.pointer (some ⟨gl, r.length * 4, none⟩), .agg #[.int .i64 d.k, .int .i64 d.n, .string d.s, .slice none 0 0, .slice none 0 0, .slice po n c], .int .i64 (nodesF (f :: r) : Nat)] wx (LayTo w0 wb wx R v l tb gl cap d f r q') := by
  obtain ⟨g1, g2, g3⟩ := hi.glw
  have hkx : Kp (fun x => x = R) w wx := hk.trans' (hx.mono fun _ _ e => e.elim)
  have htop := hi.top.kp hkx (by omega)
  have hle : f.left ≤ 1099511627776 := (hi.ok f List.mem_cons_self).2
  have hmem := (hi.begun hk).kp (hx.mono fun _ _ e => e.elim)
  obtain ⟨hT, hU⟩ := stk_iff.1 hmem.stk
  have hc0 := hmem.hd T Lr rfl
  have hrow := hT.rr
  rw [hc0, if_neg (by omega), Nat.add_zero] at hrow
  obtain ⟨_, _, xs, hxs, hel⟩ := hrow
  obtain ⟨vp, vc, hvi⟩ := row_form hxs
  have hptr := ptr_full r.length T Lr hLr
  rw [hptr] at htop
  have hnq := hi.nq
  have hql := hi.rd.le
  have hnb := hi.nb
  have hlenT : T.res.length ≤ nodesB (T :: Lr) := by
    have := len_cnts T.res
    simp only [nodesB, List.map_cons, List.sum_cons, Bl.nodes]; omega
  have hTv : T.vr.ownBlock ≠ some T.b := by
    intro e
    have hm : T.b ∈ T.rows := by simp [Bl.rows, e]
    have hnd := hmem.sep.nd
    rw [rowsOf_cons, List.nodup_cons] at hnd
    rcases hU.hb with e2 | e2
    · exact hnd.1 (List.mem_append_left _ (e2 ▸ hm))
    · exact (List.nodup_append.1 hnd.2).2.2 _ hm _ e2 rfl
  have hW : w0.heap.size ≤ wx.heap.size := (hi.kp.trans' hkx).size
  have hcT := hT.c4
  rw [hvi] at hcT hTv hxs
  refine (lay_over htop (by simp only; omega) (by simp only; omega) (b := T.b) (bo := T.o) rfl hR d.k d.n d.s none none po 0 0 0 0 n c (nodesF (f :: r)) (by omega) (by omega) hT.blk hcT hxs hTv hW (by omega)).mono ?_
  rintro e w' ⟨gg, cp, rfl, p1, p2, p3, p4⟩
  have hglT : gl ≠ T.b := fun e => hmem.gn (e ▸ by
    rcases hU.hb with e2 | e2
    · rw [e2]; exact List.mem_cons_self
    · exact List.mem_cons_of_mem _ (by rw [rowsOf_cons]; exact List.mem_append_right _ e2))
  have hglv : ∀ x, (Value.slice vp T.res.length vc).ownBlock = some x → x ∈ tb :: rowsOf (T :: Lr) := fun x e => List.mem_cons_of_mem _ (by rw [rowsOf_cons]; exact List.mem_append_left _ (by simp only [Bl.rows, List.mem_append]; exact .inr (by rw [hvi]; simp [e])))
  obtain ⟨s1, s2⟩ := put_rest hT hU hmem.sep hc0 hmem.gn hmem.gg rfl hel (by rw [← hvi] at hxs; exact p1) hxs.1 (by rw [hvi]; exact p2) p3 (by rw [hvi]; exact p4) (by omega) hd.rng ((bytes_kp hy hx (fun _ _ e => e)).imp (fun x e => .inr e) (fun _ _ _ _ e => e))
  have hset : Kp (fun x => x = gl) wx (wx.setCell ⟨gl, r.length * 4 + 1, none⟩ (.int .i64 ((f.left : Int) - 1))) := (Kp.refl (fun x => x = gl) wx).setCell _ _ (.inl rfl)
  have hset2 := ((Kp.refl (fun x => x = T.b) (wx.setCell ⟨gl, r.length * 4 + 1, none⟩ (.int .i64 ((f.left : Int) - 1)))).setCell ⟨T.b, T.o + 4, none⟩ (.slice (some ⟨gg, 0, none⟩) (T.res.length + 1) cp) (.inl rfl))
  have hkA : Kp (fun x => x ∈ tb :: rowsOf (T :: Lr)) (wx.setCell ⟨gl, r.length * 4 + 1, none⟩ (.int .i64 ((f.left : Int) - 1))) w' := (hset2.mono fun x _ e => by
    rw [e]
    rcases hU.hb with e2 | e2
    · rw [e2]; exact List.mem_cons_self
    · exact List.mem_cons_of_mem _ (by rw [rowsOf_cons]; exact List.mem_append_right _ e2)).trans' (p4.mono fun x _ e => hglv x e)
  have hglb : gl < wb.heap.size := Nat.lt_of_lt_of_le g2 hk.size
  have hin : ∀ x ∈ tb :: rowsOf (T :: Lr), w0.heap.size ≤ x ∧ x < wb.heap.size := fun x hx => (hi.begun hk).sep.lo x hx
  have hzb : wb.heap.size ≤ wx.heap.size := hx.size
  have hgn : gl ≠ gg := by
    rcases p2 with e | e
    · exact fun e2 => hmem.gn (e2 ▸ hglv gg e)
    · omega
  have hrow' : w'.ownsRow w0.heap.size 133 4 (.slice (some ⟨gl, 0, none⟩) (r.length + 1) cap) (r.length + 1) (lvRow false (f :: r) (ptrs (r.length + 1) (T :: Lr))) :=
    left_row hi hkx (hkA.mono fun x _ e e2 => hmem.gn (e2 ▸ e))
  have hrd : RAt w' R v l q' := by
    have h1 := (hr.kp hx).other g3 (r.length * 4 + 1) (.int .i64 ((f.left : Int) - 1))
    have hRr := hi.mem.rw'
    exact ⟨(hkA.block R (Array.getElem?_eq_some_iff.1 h1.cells).1 (fun e => by have := (hin R e).1; omega)).trans h1.cells, bytes_kp h1.bytes hkA (fun x e e2 => by have := (hin x e2).1; omega), h1.le⟩
  have hkp : Kp (fun q => q = R) w0 w' := kp_new (kp_new (hi.kp.trans' hkx) (hset.mono fun x _ e => .inr (by omega))) (hkA.mono fun x _ e => .inr (hin x e).1)
  have hkb : Kp (fun x => x < wb.heap.size) wx w' := (hset.mono fun x _ e => by omega).trans' (hkA.mono fun x _ e => (hin x e).2)
  have hgn2 : gl ∉ tb :: rowsOf (newBl gg (T.res.length * 6) d (.slice po n c) :: { T with vr := .slice (some ⟨gg, 0, none⟩) (T.res.length + 1) cp, ch := 2 } :: Lr) := fun e => by
    rw [rowsOf_cons, rowsOf_cons] at e
    simp only [newBl, Bl.rows, Value.ownBlock, Option.toList, List.nil_append, List.mem_cons, List.mem_append, List.not_mem_nil, or_false] at e
    have hmg := hmem.gn
    rw [rowsOf_cons] at hmg
    simp only [Bl.rows, List.mem_cons, List.mem_append, not_or] at hmg
    rcases e with e | (e | e) | e
    · exact hmg.1 e
    · exact hmg.2.1.1 e
    · exact hgn e
    · exact hmg.2.2 e
  have hm0 : TmMem w0.heap.size (fun x => G x ∨ Own w.heap.size wb x) w' (h + 1) tb gl R (newBl gg (T.res.length * 6) d (.slice po n c) :: { T with vr := .slice (some ⟨gg, 0, none⟩) (T.res.length + 1) cp, ch := 2 } :: Lr) :=
    ⟨s1, s2, fun L r e => by injection e with e _; rw [← e]; rfl, hgn2, hmem.gg, hmem.rw'⟩
  have hm1 := hm0.pop
  obtain ⟨e1, e2, _, _⟩ := Bl.took_b { T with vr := .slice (some ⟨gg, 0, none⟩) (T.res.length + 1) cp, ch := 2 } (newBl gg (T.res.length * 6) d (.slice po n c)).tm
  have hnb2 : nodesB (Bl.took { T with vr := .slice (some ⟨gg, 0, none⟩) (T.res.length + 1) cp, ch := 2 } (newBl gg (T.res.length * 6) d (.slice po n c)).tm :: Lr) = nodesB (T :: Lr) + 1 := by
    rw [nodesB_pop]
    have h2 : Bl.nodes { T with vr := .slice (some ⟨gg, 0, none⟩) (T.res.length + 1) cp, ch := 2 } = T.nodes := rfl
    simp only [nodesB, List.map_cons, List.sum_cons, newBl_nodes, h2]; omega
  have hsp : 65537 ≤ nodesB (T :: Lr) := by
    rcases hi.mode with hm | ⟨m1, _⟩
    · rw [hm.nodes]; omega
    · exact m1
  refine ⟨none, _, _, _, rfl, ⟨hrd, hkp, hm1, ?_, by simp; omega, .inr ⟨by omega, by rw [nodesF_of]; omega⟩, by rw [nodesF_of]; omega⟩, ptr_of _ _ (by simp; omega), hkb⟩
  rw [ptrs_tail (r.length + 1) _ (by simp; omega), ptrs_same (r.length + 1) (C := T) Lr e1 e2]
  exact hrow'
end
end Go.Proofs.YtaeoohjgdkablaaDoor

/- While a term is read: a part more. -/
namespace Go.Proofs.YtaeoohjgdkablaaDoor
open Go.RowKit

section
variable {w0 w wb wx w2 w3 w' : World} {R : Nat} {v : Value} {l : List UInt8} {p tb gl cap q q' : Nat} {f : Fr} {r : List Fr} {Ls : List Bl} {G : Nat → Prop} {h : Nat}
theorem lay_any (hi : TmInv w0 w R v l p tb gl cap (f :: r) Ls q G h) (hk : Kp (fun x => x = R) w wb) (hx : Kp (fun _ => False) wb wx) (hr : RAt wb R v l q') {d : Hd} (hd : d.wf) {po : Option Addr} {n c : Nat}
    (hy : BytesAt (Own w.heap.size wb) wb d.bys (.slice po n c)) (hl : l.length ≤ 1000000000) :
    Calls Tryd.prog 62 #[.pointer (some ⟨gl, r.length * 4, none⟩), .agg #[.int .i64 d.k, .int .i64 d.n, .string d.s, .slice none 0 0, .slice none 0 0, .slice po n c], .int .i64 (nodesF (f :: r) : Nat)] wx (LayTo w0 wb wx R v l tb gl cap d f r q') := by
  by_cases hlen : Ls.length = r.length + 1
  · obtain ⟨T, Lr, rfl⟩ := hi.ne
    have hLr : Lr.length = r.length := by simpa using hlen
    by_cases hm : 65536 < nodesF (f :: r)
    · cases hR : f.inR
      · refine lay_mid_skip hi hk hx hr d po n c (.inr ⟨⟨_, ptr_full r.length T Lr hLr⟩, hm, hR⟩) ⟨?_, by omega⟩
        rcases hi.mode with h1 | ⟨h1, _⟩
        · rw [h1.nodes]; omega
        · exact h1
      · exact lay_mid_over hi hk hx hr hd hy hLr hR hm hl
    · cases hR : f.inR
      · exact lay_mid_items hi hk hx hr hd hy hLr hR hm hl
      · exact lay_mid_rest hi hk hx hr hd hy hLr hR hm hl
  · have hle := hi.len
    rw [List.length_cons] at hle
    refine lay_mid_skip hi hk hx hr d po n c (.inl (ptr_of _ _ (by omega))) ?_
    rcases hi.mode with h1 | h1
    · exact absurd h1.len (by simp; omega)
    · exact h1

/-- the new level is put behind the others: what the append leaves -/
theorem level_row {d : Hd} {po : Option Addr} (hm : TmMid w0 w R v l tb gl cap d f r Ls q G h) (hp : (ptrs (r.length + 2) Ls).headD (.pointer none) = .pointer po) (hleft : 0 < f.left) (hok : ∀ x ∈ f :: r, FrOk x) (hpos : ∀ x ∈ r, 0 < x.left)
    (hruns : ∀ T0 y, (wfT T0 ∧ l.drop p = encT T0 ++ y) ↔ Runs (Fr.of d :: f :: r) (l.drop q) T0 y) (hq : nodesF (f :: r) < q) (hpq : p < q) (hdm : d.m ≤ 1099511627776) (hl : l.length ≤ 1000000000) (hk : Kp (fun _ => False) w wx) :
    ∃ gl' cap' w3, (Builtin.append_ #[135, 135] 135 #[.slice (some ⟨gl, 0, none⟩) (r.length + 1) cap, .slice (some ⟨wx.heap.size, 0, none⟩) 1 1]).run Tryd.prog (wx.alloc (.cells #[.pointer po, .int .i64 (d.m : Nat), .bool (d.k == 7), .bool false] 133)) = .ok (.slice (some ⟨gl', 0, none⟩) (r.length + 2) cap') w3 ∧
      TmInv w0 w3 R v l p tb gl' cap' (Fr.of d :: f :: r) Ls q G h := by
  have hrow := hk.row hm.row (fun _ _ e => e)
  have hmem := hm.mem.kp (hk.mono fun _ _ e => e.elim)
  have hg := hrow.lt gl rfl
  obtain ⟨i0, hi, hz0, hz1, hz2⟩ := info_parts Tryd.infoLevel
  have hka : Kp (fun _ => False) wx (wx.alloc (.cells #[.pointer po, .int .i64 (d.m : Nat), .bool (d.k == 7), .bool false] 133)) := (Kp.refl _ wx).alloc _
  have hql := hm.rd.le
  have hnr : r.length + 1 ≤ nodesF (f :: r) := by
    have : ∀ fs : List Fr, fs.length ≤ nodesF fs := by
      intro fs
      induction fs with
      | nil => simp
      | cons x fs ih => simp only [nodesF, List.map_cons, List.sum_cons, List.length_cons, Fr.nodes] at ih ⊢; omega
    exact this (f :: r)
  obtain ⟨g, cp, w3, h1, h2, h3, h4, h5⟩ := run_append_lies (P := Tryd.prog) _ 135 135 w0.heap.size 133 i0 (.agg #[.pointer none, .int .i64 0, .bool false, .bool false]) 4 24 Tryd.underlying135 hi hz0 hz1 hz2 rfl (by omega) _ _ _ (hka.row hrow (fun _ _ e => e)) ⟨wx.heap.size, 0, none⟩ 1 1 [.pointer po, .int .i64 (d.m : Nat), .bool (d.k == 7), .bool false] rfl
    (World.news_of_block (cs := #[.pointer po, .int .i64 (d.m : Nat), .bool (d.k == 7), .bool false]) (heap_alloc_new wx _)) (by intro u hu; simp at hu; rcases hu with rfl | rfl | rfl | rfl <;> rfl) (by omega) (by unfold maxLen; omega) (by omega) (by have := hm.kp.size; have := hk.size; simp; omega) (wx.heap.size + 1) (by simp)
  have hk3 : Kp (fun x => x = gl) wx w3 := (hka.mono fun _ _ e => e.elim).grown h3 (fun x hx => .inl (by have := Option.some.inj hx; exact this.symm))
  have hgn : g ∉ tb :: rowsOf Ls ∧ ¬ G g := by
    rcases h4 with e | e
    · have e := Option.some.inj e
      simp only at e
      subst e
      exact ⟨hmem.gn, hmem.gg⟩
    · exact ⟨fun e2 => by have := (hmem.sep.lo g e2).2; omega, fun e2 => by have := (hmem.sep.gl g e2).2; omega⟩
  have hm3 := hmem.kp (hk3.mono fun _ _ e => .inr e)
  have hRw := hm.mem.rw'
  have hkR : Kp (fun q => q = R) w0 w3 := kp_new (hm.kp.trans' (hk.mono fun _ _ e => e.elim)) (hk3.mono fun x _ e => .inr (by omega))
  refine ⟨g, cp, w3, h1, ⟨?_, hkR, ⟨hm3.stk, hm3.sep, hm3.hd, hgn.1, hgn.2, hm3.rw'⟩, ?_, hm.len, fun x hx => ?_, fun x hx => ?_, hruns, hm.mode, hm.nb, by rw [nodesF_of]; omega, hpq⟩⟩
  · have hr1 := hm.rd.kp hk
    exact ⟨(hk3.block R (Array.getElem?_eq_some_iff.1 hr1.cells).1 (by omega)).trans hr1.cells, bytes_kp hr1.bytes hk3 (fun x e e2 => by omega), hr1.le⟩
  · rw [List.length_cons, List.length_cons]
    show w3.ownsRow _ _ _ _ _ (lvRow true (Fr.of d :: f :: r) (ptrs (r.length + 2) Ls))
    rw [lvRow, hp]
    exact h2
  · rcases List.mem_cons.1 hx with rfl | hx
    · exact ⟨fun _ => ⟨rfl, rfl⟩, hdm⟩
    · exact hok x hx
  · simp only [List.tail_cons] at hx
    rcases List.mem_cons.1 hx with rfl | hx
    · exact hleft
    · exact hpos x hx
end
end Go.Proofs.YtaeoohjgdkablaaDoor
