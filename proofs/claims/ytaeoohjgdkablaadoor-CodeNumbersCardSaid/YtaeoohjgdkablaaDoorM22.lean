/- While a term is read: a part more. -/
import Derived.Test.YtaeoohjgdkablaaDoorM21
/- While a term is read: a part more. -/
namespace Go.Proofs.YtaeoohjgdkablaaDoor
open Go.RowKit

section
variable {w0 w wb wx w2 w3 w' : World} {R : Nat} {v : Value} {l : List UInt8} {p tb gl cap q q' : Nat} {f : Fr} {r : List Fr} {Ls : List Bl} {G : Nat → Prop} {h : Nat}
theorem lay_any (hi : TmInv w0 w R v l p tb gl cap (f :: r) Ls q G h) (hk : Kp (fun x => x = R) w wb) (hx : Kp (fun _ => False) wb wx) (hr : RAt wb R v l q') {d : Hd} (hd : d.wf) {po : Option Addr} {n c : Nat}
    (hy : BytesAt (Own w.heap.size wb) wb d.bys (.slice po n c)) (hl : l.length ≤ 1000000000) :
    Calls Tryd.prog 62 #[.pointer (some ⟨gl, r.length * 4, none⟩), .agg #[.int .i64 d.k, .int .i64 d.n, .string d.s, .slice none 0 0, .slice none 0 0, .slice po n c], .int .i64 (nodesF (f :: r) : Nat)] wx (LayTo w0 wb wx R v l tb gl cap d f r q') := by
  by_cases hlen : Ls.length = r.length + 1
  · obtain ⟨T, Lr, rfl⟩ := hi.ne
    have hLr : Lr.length = r.length := by simpa using hlen
    by_cases hm : 65536 < nodesF (f :: r)
    · cases hR : f.inR
      · refine lay_mid_skip hi hk hx hr d po n c (.inr ⟨⟨_, ptr_full r.length T Lr hLr⟩, hm, hR⟩) ⟨?_, by omega⟩
        rcases hi.mode with h1 | ⟨h1, _⟩
        · rw [h1.nodes]; omega
        · exact h1
      · exact lay_mid_over hi hk hx hr hd hy hLr hR hm hl
    · cases hR : f.inR
      · exact lay_mid_items hi hk hx hr hd hy hLr hR hm hl
      · exact lay_mid_rest hi hk hx hr hd hy hLr hR hm hl
  · have hle := hi.len
    rw [List.length_cons] at hle
    refine lay_mid_skip hi hk hx hr d po n c (.inl (ptr_of _ _ (by omega))) ?_
    rcases hi.mode with h1 | h1
    · exact absurd h1.len (by simp; omega)
    · exact h1

/-- the new level is put behind the others: what the append leaves -/
theorem level_row {d : Hd} {po : Option Addr} (hm : TmMid w0 w R v l tb gl cap d f r Ls q G h) (hp : (ptrs (r.length + 2) Ls).headD (.pointer none) = .pointer po) (hleft : 0 < f.left) (hok : ∀ x ∈ f :: r, FrOk x) (hpos : ∀ x ∈ r, 0 < x.left)
    (hruns : ∀ T0 y, (wfT T0 ∧ l.drop p = encT T0 ++ y) ↔ Runs (Fr.of d :: f :: r) (l.drop q) T0 y) (hq : nodesF (f :: r) < q) (hpq : p < q) (hdm : d.m ≤ 1099511627776) (hl : l.length ≤ 1000000000) (hk : Kp (fun _ => False) w wx) :
    ∃ gl' cap' w3, (Builtin.append_ #[135, 135] 135 #[.slice (some ⟨gl, 0, none⟩) (r.length + 1) cap, .slice (some ⟨wx.heap.size, 0, none⟩) 1 1]).run Tryd.prog (wx.alloc (.cells #[.pointer po, .int .i64 (d.m : Nat), .bool (d.k == 7), .bool false] 133)) = .ok (.slice (some ⟨gl', 0, none⟩) (r.length + 2) cap') w3 ∧
      TmInv w0 w3 R v l p tb gl' cap' (Fr.of d :: f :: r) Ls q G h := by
  have hrow := hk.row hm.row (fun _ _ e => e)
  have hmem := hm.mem.kp (hk.mono fun _ _ e => e.elim)
  have hg := hrow.lt gl rfl
  obtain ⟨i0, hi, hz0, hz1, hz2⟩ := info_parts Tryd.infoLevel
  have hka : Kp (fun _ => False) wx (wx.alloc (.cells #[.pointer po, .int .i64 (d.m : Nat), .bool (d.k == 7), .bool false] 133)) := (Kp.refl _ wx).alloc _
  have hql := hm.rd.le
  have hnr : r.length + 1 ≤ nodesF (f :: r) := by
    have : ∀ fs : List Fr, fs.length ≤ nodesF fs := by
      intro fs
      induction fs with
      | nil => simp
      | cons x fs ih => simp only [nodesF, List.map_cons, List.sum_cons, List.length_cons, Fr.nodes] at ih ⊢; omega
    exact this (f :: r)
  obtain ⟨g, cp, w3, h1, h2, h3, h4, h5⟩ := run_append_lies (P := Tryd.prog) _ 135 135 w0.heap.size 133 i0 (.agg #[.pointer none, .int .i64 0, .bool false, .bool false]) 4 24 Tryd.underlying135 hi hz0 hz1 hz2 rfl (by omega) _ _ _ (hka.row hrow (fun _ _ e => e)) ⟨wx.heap.size, 0, none⟩ 1 1 [.pointer po, .int .i64 (d.m : Nat), .bool (d.k == 7), .bool false] rfl
    (World.news_of_block (cs := #[.pointer po, .int .i64 (d.m : Nat), .bool (d.k == 7), .bool false]) (heap_alloc_new wx _)) (by intro u hu; simp at hu; rcases hu with rfl | rfl | rfl | rfl <;> rfl) (by omega) (by unfold maxLen; omega) (by omega) (by have := hm.kp.size; have := hk.size; simp; omega) (wx.heap.size + 1) (by simp)
  have hk3 : Kp (fun x => x = gl) wx w3 := (hka.mono fun _ _ e => e.elim).grown h3 (fun x hx => .inl (by have := Option.some.inj hx; exact this.symm))
  have hgn : g ∉ tb :: rowsOf Ls ∧ ¬ G g := by
    rcases h4 with e | e
    · have e := Option.some.inj e
      simp only at e
      subst e
      exact ⟨hmem.gn, hmem.gg⟩
    · exact ⟨fun e2 => by have := (hmem.sep.lo g e2).2; omega, fun e2 => by have := (hmem.sep.gl g e2).2; omega⟩
  have hm3 := hmem.kp (hk3.mono fun _ _ e => .inr e)
  have hRw := hm.mem.rw'
  have hkR : Kp (fun q => q = R) w0 w3 := kp_new (hm.kp.trans' (hk.mono fun _ _ e => e.elim)) (hk3.mono fun x _ e => .inr (by omega))
  refine ⟨g, cp, w3, h1, ⟨?_, hkR, ⟨hm3.stk, hm3.sep, hm3.hd, hgn.1, hgn.2, hm3.rw'⟩, ?_, hm.len, fun x hx => ?_, fun x hx => ?_, hruns, hm.mode, hm.nb, by rw [nodesF_of]; omega, hpq⟩⟩
  · have hr1 := hm.rd.kp hk
    exact ⟨(hk3.block R (Array.getElem?_eq_some_iff.1 hr1.cells).1 (by omega)).trans hr1.cells, bytes_kp hr1.bytes hk3 (fun x e e2 => by omega), hr1.le⟩
  · rw [List.length_cons, List.length_cons]
    show w3.ownsRow _ _ _ _ _ (lvRow true (Fr.of d :: f :: r) (ptrs (r.length + 2) Ls))
    rw [lvRow, hp]
    exact h2
  · rcases List.mem_cons.1 hx with rfl | hx
    · exact ⟨fun _ => ⟨rfl, rfl⟩, hdm⟩
    · exact hok x hx
  · simp only [List.tail_cons] at hx
    rcases List.mem_cons.1 hx with rfl | hx
    · exact hleft
    · exact hpos x hx
end
end Go.Proofs.YtaeoohjgdkablaaDoor
