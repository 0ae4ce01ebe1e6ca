/- What is not reached is given back. A Store that is under way: its own blocks (its header, the words taken, the numbers met, the names that are new), and the method block. A Store's end where nothing is new: errors.As of nil, tellNames of none. -/
import Derived.Test.YtkcmfldcdokobaaGreatDoorM23
import Derived.Laws.AppendOwnNone
/- What is not reached is given back. -/
namespace Go.Proofs.YtkcmfldcdokobaaGreatDoor
open Go.RowKit Go.Maps

/-- blocks qs are given back, one behind the other -/
inductive Gives (A : Ar) (a : Bn) : List Nat → Ar → Bn → Prop where
  | none : Gives A a [] A a
  | snoc {qs A1 a1 q n a2} : Gives A a qs A1 a1 → A1.tk q n → GiveTo a1 (handleOf (blkW A1 q n)) a2 → Gives A a (qs ++ [q]) (A1.freed q (cls n)) a2
/-- the blocks that are not of ds -/
def gone (ns ds : List Nat) : List Nat := (ns.filter fun x => !decide (x - 1 ∈ ds)).map (· - 1)

section
variable {A A' : Ar} {a a' : Bn} {qs ds ns : List Nat}
theorem Gives.tk (h : Gives A a qs A' a') : (∀ p m, A'.tk p m ↔ A.tk p m ∧ p ∉ qs) ∧ A'.places = A.places ∧ A'.taken.length = A.taken.length := by
  induction h with
  | none => simp
  | snoc h1 hq _ ih =>
    refine ⟨fun p m => ?_, ih.2.1, ?_⟩
    · rw [freed_tk hq, ih.1]
      simp only [List.mem_append, List.mem_singleton, not_or]
      exact ⟨fun ⟨e, h, hn⟩ => ⟨h, hn, e⟩, fun ⟨h, hn, e⟩ => ⟨e, h, hn⟩⟩
    · simp [Ar.freed, ih.2.2]
theorem gone_succ {k x : Nat} (hx : ns[k]? = some x) : gone (ns.take (k + 1)) ds = gone (ns.take k) ds ++ (if x - 1 ∈ ds then [] else [x - 1]) := by
  unfold gone
  rw [List.take_add_one, hx]
  by_cases h : x - 1 ∈ ds <;> simp [List.filter_append, h]
theorem namesTo_mem (l : List Bool) (k x : Nat) : x ∈ namesTo l k ↔ ∃ q, x = q + 1 ∧ q < k ∧ l.getD q false = true := by
  unfold namesTo
  simp only [List.mem_filterMap, List.mem_range]
  constructor
  · rintro ⟨q, hq, e⟩
    split at e
    · injection e with e
      exact ⟨q, e.symm, hq, by assumption⟩
    · cases e
  · rintro ⟨q, rfl, hq, hl⟩
    exact ⟨q, hq, by rw [if_pos hl]⟩
theorem namesTo_lt (l : List Bool) : ∀ k, (namesTo l k).Pairwise (· < ·)
  | 0 => by simp [namesTo]
  | k + 1 => by
    rw [namesTo_succ, List.pairwise_append]
    refine ⟨namesTo_lt l k, by split <;> simp, fun x hx y hy => ?_⟩
    obtain ⟨q, rfl, hq, _⟩ := (namesTo_mem l k x).1 hx
    split at hy
    · simp at hy
      omega
    · simp at hy
theorem names_mem (hI : Inv A []) {x : Nat} : x ∈ A.names ↔ ∃ q n, x = q + 1 ∧ A.tk q n := by
  unfold Ar.names
  rw [namesTo_mem]
  constructor
  · rintro ⟨q, rfl, hq, hl⟩
    rw [List.getD_eq_getElem?_getD, List.getElem?_eq_getElem hq] at hl
    have ht : A.taken[q]? = some true := by rw [List.getElem?_eq_getElem hq]; simpa using hl
    obtain ⟨n, hn, _⟩ := hI.tk_of ht
    exact ⟨q, n, rfl, hn⟩
  · rintro ⟨q, n, rfl, hn⟩
    exact ⟨q, rfl, (List.getElem?_eq_some_iff.1 hn.1).1, by rw [List.getD_eq_getElem?_getD, hn.1]; rfl⟩
theorem names_rest {k x : Nat} (hx : A.names[k]? = some x) : ∀ y ∈ A.names.drop (k + 1), x < y := by
  have h := (namesTo_lt A.taken A.taken.length).sublist (List.drop_sublist k _)
  have hlt := (List.getElem?_eq_some_iff.1 hx).1
  change (A.names.drop k).Pairwise (· < ·) at h
  rw [List.drop_eq_getElem_cons hlt, List.pairwise_cons] at h
  rw [List.getElem?_eq_getElem hlt] at hx
  injection hx with hx
  rw [hx] at h
  exact h.1
end

section
variable {w0 w w' w1 w2 : World} {col col1 col2 : Nat → Nat} {hb ab tb bb least N : Nat} {sv : Value} {sl : List (Int × Bool)} {A A' : Ar} {names : List ByteArray} {a a' : Bn}
theorem Go0.map {mb n : Nat} {D : DataW Unit} {P : Program} {t : TypeId} {R : Value → Option (DataW Unit × List MemPlace)} (h : Go0 col w col1 w1) (hm : w.ownsMap P t R mb n D) (hc : col mb = 0) : w1.ownsMap P t R mb n D ∧ col1 mb = 0 :=
  ⟨ownsMap_kp hm h.2 (fun e => e hc), (h.1 mb hm.lt).trans hc⟩

set_option maxRecDepth 100000 in
set_option maxHeartbeats 1000000 in
theorem collect_none (h : Hs w0 w col hb ab tb bb sv least sl A names N a) (hN : N ≤ 90000000000000) (hL : sl.length ≤ 1000000000) (hw : ∀ x ∈ heldTo sl sl.length, 0 ≤ x ∧ x ≤ 18446744073709551615) :
    Calls Tryz.prog 18 #[.pointer (some ⟨hb, 0, none⟩), .slice none 0 0] w fun e w' => ∃ ds, e = .returned (.int .i64 (gone A.names ds).length) ∧ (∀ q, q ∈ ds ↔ Reached A (heldTo sl sl.length) q) ∧
      ∃ col' A' a', Go0 col w col' w' ∧ Gives A a (gone A.names ds) A' a' ∧ Hs w0 w' col' hb ab tb bb sv least sl A' names (N + 1048576) a' := by
  have H := Lib.hid (And.intro h hw)
  have hlen := heldTo_len sl sl.length
  clear h hw
  go_enter Tryz.func18, Tryz.ntmps18
  go_wp2_with fail
  refine (held_any H.out.1.hr hL).mono ?_
  rintro e w1 ⟨v, rfl, hrow, hk1⟩
  have hs1 := hk1.size
  have Hk1 := Lib.hid hk1
  obtain ⟨i0, hi, hz0, hz1, hz2⟩ := info_parts Tryz.infoU64
  go_wp2_with (at_builtin; refine wpList_append_own_none rfl _ _ 34 rfl w.heap.size 27 i0 1 Tryz.underlying34 hi v _ _ rfl hrow rfl ?_)
  have h1 := H.out.1.same hk1
  refine (reach_any h1.ar Fi_lt w.heap.size v _ hrow hs1 (by omega) H.out.2 (fun g hg => ?_)).mono ?_
  · have hg2 := hrow.lt g hg
    have hc : recol col w 0 g = 0 := by unfold recol; rw [if_neg (by omega)]
    refine ⟨fun e => by have := e.1; omega, ?_⟩
    have := h1.hr.inF.1
    rintro rfl
    omega
  rintro e w2 ⟨mb, ds, rfl, hmb, hmap, hds, hk2⟩
  have hk2' : Kp (fun _ => False) w w2 := hk1.trans (hk2.mono fun q hq e => .inr ⟨(hrow.lt q e).1, hq⟩)
  have h2 := H.out.1.same hk2'
  have h0 : Go0 col w (recol col w 0) w2 := Go0.same hk2'
  have hmc : recol col w 0 mb = 0 := by unfold recol; rw [if_neg (by omega)]
  obtain ⟨col2, hcol2⟩ : ∃ c, recol col w 0 = c := ⟨_, rfl⟩
  rw [hcol2] at h2 h0 hmc
  obtain ⟨c0, _⟩ := h2.hr.cells
  have H2 := Lib.hid (And.intro h2 (And.intro h0 (And.intro hmc (And.intro hmap hds))))
  clear hrow hk1 h1 hk2 hk2' h2 h0 hmc hmap hds hcol2 hs1 hmb Hk1
  go_wp2_with fail
  refine (blocks_any H2.out.1.ar.rep H2.out.1.ar.lens.1).mono ?_
  rintro e w3 ⟨v3, rfl, hrow3, hk3⟩
  obtain ⟨po, cap, rfl⟩ := slice_form hrow3
  have h3 := H2.out.1.same hk3
  have h03 : Go0 col w (recol col2 w2 0) w3 := H2.out.2.1.trans (Go0.same hk3)
  obtain ⟨hm3, hmc3⟩ := (Go0.same (col := col2) hk3).map H2.out.2.2.2.1 H2.out.2.2.1
  have hrc : ∀ g, (Value.slice po A.names.length cap).ownBlock = some g → recol col2 w2 0 g = 0 := fun g hg => by unfold recol; rw [if_neg (by have := (hrow3.lt g hg).1; omega)]
  obtain ⟨col3, hcol3⟩ : ∃ c, recol col2 w2 0 = c := ⟨_, rfl⟩
  rw [hcol3] at h3 h03 hmc3 hrc
  have hnl : A.names.length ≤ 1048576 := Nat.le_trans (namesTo_len _ _) H2.out.1.ar.lens.1
  have H3 := Lib.hid (And.intro h3 (And.intro h03 (And.intro hm3 (And.intro hmc3 (And.intro hrow3 hrc)))))
  obtain ⟨L, hLe⟩ : ∃ L, A.names.length = L := ⟨_, rfl⟩
  rw [hLe] at hnl
  have HL := Lib.hid hLe
  clear h3 h03 hm3 hmc3 hrow3 hrc hcol3 hk3
  simp only [hLe]
  go_wp2_with fail
  go_loopg [6, 23] L (fun gk gv ix wr => ∃ (k : Nat) (col' : Nat → Nat) (A' : Ar) (a' : Bn), k ≤ L ∧ gk = L - k ∧ ix = .int .i64 k ∧ gv = .int .i64 (gone (A.names.take k) ds).length ∧
    (Go0 col w col' wr ∧ Hs w0 wr col' hb ab tb bb sv least sl A' names (N + k) a' ∧ Gives A a (gone (A.names.take k) ds) A' a' ∧ wr.ownsMap Tryz.prog 3 unitElem mb ds.length (doneSet ds) ∧ col' mb = 0 ∧
      wr.ownsRow w2.heap.size 3 1 (.slice po L cap) L (A.names.map fun (x : Nat) => Value.int .i64 x) ∧ (∀ g, (Value.slice po L cap).ownBlock = some g → col' g = 0) ∧ (∀ p n, A.tk p n → p + 1 ∈ A.names.drop k → A'.tk p n)))
  case atStart =>
    have e := H3.out
    rw [HL.out] at e
    exact ⟨0, col3, A, a, by omega, rfl, rfl, by simp [gone], e.2.1, e.1, by simpa [gone] using Gives.none, e.2.2.1, e.2.2.2.1, e.2.2.2.2.1, e.2.2.2.2.2, fun p n hp _ => hp⟩
  case round =>
    obtain ⟨k, col', A', a', hk, rfl, rfl, rfl, hgo, hHs, hgv, hmap, hmc, hrow, hrc, hrest⟩ := hrel
    by_cases hlt : k < L
    · obtain ⟨x, hx⟩ : ∃ x, A.names[k]? = some x := ⟨_, List.getElem?_eq_getElem (by rw [HL.out]; exact hlt)⟩
      obtain ⟨q, n, rfl, htk⟩ := (names_mem H.out.1.ar.inv).1 (List.mem_of_getElem? hx)
      have hxl := (List.getElem?_eq_some_iff.1 hx).1
      have hdrop : A.names.drop k = (q + 1) :: A.names.drop (k + 1) := by
        rw [List.drop_eq_getElem_cons hxl]
        congr 1
        rw [List.getElem?_eq_getElem hxl] at hx
        exact Option.some.inj hx
      have htk' : A'.tk q n := hrest q n htk (by rw [hdrop]; simp)
      have hrl := names_rest hx
      obtain ⟨g, rfl⟩ : ∃ g, po = some ⟨g, 0, none⟩ := by
        rcases hrow.2 with ⟨_, h0⟩ | ⟨g, cap', cur, e, _⟩
        · omega
        · injection e with e
          exact ⟨g, e⟩
      have d0 : wr.cell? ⟨g, k, none⟩ = some (.int .i64 ((q : Int) + 1)) := by
        refine (hrow.cellAt k (by omega)).trans ?_
        rw [List.getElem?_map, hx]
        simp
      have hgs := gone_succ (ds := ds) hx
      rw [Nat.add_sub_cancel] at hgs
      have hqm := has_done_mem ds q
      have hq0 : (q : Int) ≤ 1048576 := by
        have h1 := (List.getElem?_eq_some_iff.1 htk'.1).1
        have h2 := hHs.ar.lens.1
        omega
      have hwf : (Lit.int .i64 ((q : Int) + 1)).wf = true := WalkArith.wf_i64 (by omega)
      have hka : ∀ o, Kp (fun _ => False) wr (wr.alloc o) := fun o => (Kp.refl _ wr).alloc o
      have hgl : (gone (A.names.take k) ds).length ≤ 1048576 := by
        unfold gone
        have h1 := List.length_filter_le (fun x => !decide (x - 1 ∈ ds)) (A.names.take k)
        simp at h1 ⊢
        omega
      have HE := Lib.hid (And.intro hgo (And.intro hHs (And.intro hgv (And.intro (And.intro hmc hrow) (And.intro hrc hrest)))))
      have HX := Lib.hid (And.intro hdrop (And.intro htk' (And.intro hrl (And.intro hgs hka))))
      have HG := Lib.hid hgs
      obtain ⟨G, hG⟩ : ∃ G, (gone (A.names.take k) ds).length = G := ⟨_, rfl⟩
      rw [hG] at hgl
      have HGl := Lib.hid hG
      by_cases hin : q ∈ ds
      · rw [decide_eq_true hin] at hqm
        rw [hG]
        clear hgo hHs hgv hmc hrow hrc hrest hdrop hrl hgs hx hxl hka hG htk htk'
        go_wp2_with (at_lookup; refine wpList_lookup_own_unit _ rfl _ _ 102 rfl 3 104 Tryz.keyedInt Tryz.underlying102 (Tryz.zeroUnit _) mb ds.length _ rfl hmap _ _ rfl (keyOf_int_mk Tryz.underlying3 hwf) ?_)
        go_roundg (L - (k + 1))
        case measure => omega
        case rel =>
          obtain ⟨e1, e2, e3, ⟨e4, e5⟩, e6, e7⟩ := HE.out
          have g1 := HX.out.2.2.2.2 (.cells #[] 104)
          have gs := HG.out
          rw [if_pos hin, List.append_nil] at gs
          have gm := (Go0.same (col := col') g1).map hmap e4
          have gr := (Go0.same (col := col') g1).row e5 e6
          refine ⟨k + 1, recol col' wr 0, A', a', by omega, rfl, by go_num, by rw [gs, HGl.out], e1.trans (Go0.same g1), ?_, by rw [gs]; exact e3, gm.1, gm.2, gr.1, gr.2, fun p m hp hm => e7 p m hp (by rw [HX.out.1]; exact List.mem_cons_of_mem _ hm)⟩
          have h' := e2.same g1
          exact ⟨h'.hr, h'.ar, h'.at', h'.bn, h'.bi.mono (by omega), h'.old, h'.kp⟩
      · rw [decide_eq_false hin] at hqm
        rw [hG]
        clear hgo hHs hgv hmc hrow hrc hrest hdrop hrl hgs hx hxl hka hG htk htk'
        go_wp2_with (at_lookup; refine wpList_lookup_own_unit _ rfl _ _ 102 rfl 3 104 Tryz.keyedInt Tryz.underlying102 (Tryz.zeroUnit _) mb ds.length _ rfl hmap _ _ rfl (keyOf_int_mk Tryz.underlying3 hwf) ?_)
        obtain ⟨e1, e2, e3, ⟨e4, e5⟩, e6, e7⟩ := HE.out
        have g1 := HX.out.2.2.2.2 (.cells #[] 104)
        refine (giveBack_any (e2.same g1) (by omega) HX.out.2.1).mono ?_
        rintro e w4 ⟨rfl, col4, a4, g4, d4, s4⟩
        have gm := (Go0.same (col := col') g1).map hmap e4
        have gr := (Go0.same (col := col') g1).row e5 e6
        have gm4 := g4.map gm.1 gm.2
        have gr4 := g4.row gr.1 gr.2
        have HY := Lib.hid (And.intro gm4 (And.intro gr4 (And.intro (e1.trans ((Go0.same g1).trans g4)) (And.intro s4 (Gives.snoc e3 HX.out.2.1 d4)))))
        have HR := Lib.hid e7
        clear gm gr gm4 gr4 g4 d4 s4 e1 e2 e3 e4 e5 e6 e7 g1
        go_wp2_with fail
        go_roundg (L - (k + 1))
        case measure => omega
        case rel =>
          have gs := HG.out
          rw [if_neg hin] at gs
          obtain ⟨y1, y2, y3, y4, y5⟩ := HY.out
          refine ⟨k + 1, col4, A'.freed q (cls n), a4, by omega, rfl, by go_num, by rw [gs, List.length_append, HGl.out]; simp, y3, ?_, by rw [gs]; exact y5, y1.1, y1.2, y2.1, y2.2, fun p m hp hm => ?_⟩
          · exact ⟨y4.hr, y4.ar, y4.at', y4.bn, y4.bi.mono (by omega), y4.old, y4.kp⟩
          · have hlt2 := HX.out.2.2.1 (p + 1) hm
            exact (freed_tk HX.out.2.1 p m).2 ⟨by omega, HR.out p m hp (by rw [HX.out.1]; exact List.mem_cons_of_mem _ hm)⟩
    · obtain rfl : k = L := by omega
      have HE := Lib.hid (And.intro hgo (And.intro hHs hgv))
      clear hgo hHs hgv hmap hmc hrow hrc hrest
      have hgt : A.names.take k = A.names := by rw [← HL.out, List.take_length]
      rw [hgt] at HE ⊢
      have HT := Lib.hid hgt
      clear hgt
      go_wp2_with fail
      go_ret
      obtain ⟨g1, g2, g3⟩ := HE.out
      exact ⟨ds, rfl, H2.out.2.2.2.2, col', A', a', g1, g3, ⟨g2.hr, g2.ar, g2.at', g2.bn, g2.bi.mono (by omega), g2.old, g2.kp⟩⟩
end
end Go.Proofs.YtkcmfldcdokobaaGreatDoor

/- A Store that is under way: its own blocks (its header, the words taken, the numbers met, the names that are new), and the method block. -/
namespace Go.Proofs.YtkcmfldcdokobaaGreatDoor
open Go.RowKit Go.Maps

/-- a Store's own blocks, all in G -/
structure LOwn (G : Nat → Prop) (w : World) (lb hb : Nat) (tv : Value) (tks : List Int) (mb nn : Nat) (D : DataW Unit) (fv : Value) (fresh : List ByteArray) : Prop where
  inG : G lb
  lt : ∀ k, G k → k < w.heap.size
  hd : w.heap[lb]? = some (.cells #[.pointer (some ⟨hb, 0, none⟩), tv, .map (some mb), fv] 94 (0, 0))
  tk : w.ownsRow 0 27 1 tv tks.length (words tks)
  tkG : ∀ g, tv.ownBlock = some g → G g ∧ g ≠ lb
  map : w.ownsMap Tryz.prog 9 (plainElem Tryz.prog 3) mb nn D
  mapG : G mb ∧ mb ≠ lb
  fr : w.ownsRow 0 9 1 fv fresh.length (fresh.map Value.string)
  frG : ∀ g, fv.ownBlock = some g → G g ∧ g ≠ lb

section
variable {G F : Nat → Prop} {w w' : World} {lb hb mb nn : Nat} {tv fv : Value} {tks : List Int} {D : DataW Unit} {fresh : List ByteArray}
theorem LOwn.kp (h : LOwn G w lb hb tv tks mb nn D fv fresh) (hk : Kp F w w') (hd : ∀ q, G q → ¬ F q) : LOwn G w' lb hb tv tks mb nn D fv fresh :=
  ⟨h.inG, fun k hG => Nat.lt_of_lt_of_le (h.lt k hG) hk.size, (hk.block _ (h.lt _ h.inG) (hd _ h.inG)).trans h.hd, hk.row h.tk (fun g hg => hd g (h.tkG g hg).1), h.tkG, ownsMap_kp h.map hk (hd _ h.mapG.1), h.mapG, hk.row h.fr (fun g hg => hd g (h.frG g hg).1), h.frG⟩
theorem LOwn.more (h : LOwn G w lb hb tv tks mb nn D fv fresh) {K : Nat → Prop} (hGK : ∀ k, G k → K k) (hlt : ∀ k, K k → k < w.heap.size) : LOwn K w lb hb tv tks mb nn D fv fresh :=
  ⟨hGK _ h.inG, hlt, h.hd, h.tk, fun g hg => ⟨hGK _ (h.tkG g hg).1, (h.tkG g hg).2⟩, h.map, ⟨hGK _ h.mapG.1, h.mapG.2⟩, h.fr, fun g hg => ⟨hGK _ (h.frG g hg).1, (h.frG g hg).2⟩⟩
theorem LOwn.cells (h : LOwn G w lb hb tv tks mb nn D fv fresh) : w.cell? ⟨lb, 0, none⟩ = some (.pointer (some ⟨hb, 0, none⟩)) ∧ w.cell? ⟨lb, 1, none⟩ = some tv ∧ w.cell? ⟨lb, 2, none⟩ = some (.map (some mb)) ∧
    w.cell? ⟨lb, 3, none⟩ = some fv ∧ ∀ j, w.frozen? ⟨lb, j, none⟩ = false :=
  ⟨cell_of h.hd 0, cell_of h.hd 1, cell_of h.hd 2, cell_of h.hd 3, fun j => frozen_of h.hd j⟩
/-- the words taken are one more -/
theorem LOwn.took (h : LOwn G w lb hb tv tks mb nn D fv fresh) {w1 : World} (hk : Kp (fun q => tv.ownBlock = some q) w w1) {g cap : Nat} {x : Int}
    (hrow : w1.ownsRow 0 27 1 (.slice (some ⟨g, 0, none⟩) (tks.length + 1) cap) (tks.length + 1) (words (tks ++ [x]))) (hg : tv.ownBlock = some g ∨ w.heap.size ≤ g) (hlt : g < w1.heap.size) :
    LOwn (Ext G w (w1.setCell ⟨lb, 1, none⟩ (.slice (some ⟨g, 0, none⟩) (tks.length + 1) cap))) (w1.setCell ⟨lb, 1, none⟩ (.slice (some ⟨g, 0, none⟩) (tks.length + 1) cap)) lb hb (.slice (some ⟨g, 0, none⟩) (tks.length + 1) cap) (tks ++ [x]) mb nn D fv fresh ∧
      Kp G w (w1.setCell ⟨lb, 1, none⟩ (.slice (some ⟨g, 0, none⟩) (tks.length + 1) cap)) := by
  have hlb := h.lt lb h.inG
  have hntk : ¬ tv.ownBlock = some lb := fun e => (h.tkG lb e).2 rfl
  have hhd := (hk.block lb hlb hntk).trans h.hd
  have hgl : g ≠ lb := by
    rcases hg with e | e
    · exact (h.tkG g e).2
    · omega
  have hks : Kp (fun q => q = lb) w1 (w1.setCell ⟨lb, 1, none⟩ (.slice (some ⟨g, 0, none⟩) (tks.length + 1) cap)) := (Kp.refl _ w1).setCell _ _ (.inl rfl)
  have hkG : Kp G w w1 := hk.mono fun q _ e => (h.tkG q e).1
  have hz1 := hk.size
  have hz2 := hks.size
  refine ⟨⟨.inl h.inG, fun k hk => ?_, ?_, ?_, fun g' hg' => ?_, ?_, ⟨.inl h.mapG.1, h.mapG.2⟩, ?_, fun g' hg' => ⟨.inl (h.frG g' hg').1, (h.frG g' hg').2⟩⟩, hkG.setCell _ _ (.inl h.inG)⟩
  · rcases hk with e | e
    · have := h.lt k e
      omega
    · exact e.2
  · rw [heap_set_same hhd]
    rfl
  · rw [List.length_append]
    exact hks.row hrow (fun g' hg' e => hgl ((show g = g' from Option.some.inj hg').trans e))
  · have e0 : g = g' := Option.some.inj hg'
    subst e0
    refine ⟨?_, hgl⟩
    rcases hg with e | e
    · exact .inl (h.tkG g e).1
    · exact .inr ⟨e, by omega⟩
  · refine ownsMap_kp (ownsMap_kp h.map hk fun e => ?_) hks h.mapG.2
    obtain ⟨_, _, _, hh, _⟩ := row_blk h.tk e
    obtain ⟨es, cl, hm, _⟩ := h.map
    rw [hm] at hh
    cases hh
  · refine hks.row (hk.row h.fr fun g' hg' e => ?_) (fun g' hg' e => (h.frG g' hg').2 e)
    obtain ⟨_, _, _, h1, _⟩ := row_blk h.tk e
    obtain ⟨_, _, _, h2, _⟩ := row_blk h.fr hg'
    exact blk_ne h1 h2 (by decide) rfl

variable {w0 : World} {col : Nat → Nat} {ab tb bb least N : Nat} {sv : Value} {sl : List (Int × Bool)} {A A' : Ar} {names : List ByteArray} {a : Bn}
theorem LOwn.step {i : Nat} (h : LOwn (Fi col w 5) w lb hb tv tks mb nn D fv fresh) (hi : i ≠ 5) (hk : Kp (Fi col w i) w w') : LOwn (Fi (recol col w i) w' 5) w' lb hb tv tks mb nn D fv fresh :=
  (h.kp hk (Fi_ne (fun e => hi e.symm))).more (Fi_old hk.size) Fi_lt
theorem LOwn.same (h : LOwn (Fi col w 5) w lb hb tv tks mb nn D fv fresh) (hk : Kp (fun _ => False) w w') : LOwn (Fi (recol col w 0) w' 5) w' lb hb tv tks mb nn D fv fresh :=
  (h.kp hk (fun _ _ e => e)).more (Fi_old hk.size) Fi_lt
/-- a Store's own blocks go on -/
theorem Hs.stepL (h : Hs w0 w col hb ab tb bb sv least sl A names N a) (hk : Kp (Fi col w 5) w w') : Hs w0 w' (recol col w 5) hb ab tb bb sv least sl A names N a :=
  ⟨(h.hr.kp hk (Fi_ne (by omega))).more (Fi_old hk.size) Fi_lt, (h.ar.kp hk (Fi_ne (by omega)) (Fi_ne (by omega) hb h.hr.inF)).more (Fi_old hk.size) Fi_lt, (h.at'.kp hk (Fi_ne (by omega))).more (Fi_old hk.size) Fi_lt, (h.bn.kp hk (Fi_ne (by omega))).more (Fi_old hk.size) Fi_lt, h.bi, h.oldCol, h.kpOld (by omega) hk⟩

/-- a block of words ws was laid -/
def BlockTo (w0 w : World) (col : Nat → Nat) (lb hb ab tb bb : Nat) (sv : Value) (least : Nat) (sl : List (Int × Bool)) (A : Ar) (names : List ByteArray) (N : Nat) (a : Bn) (tks : List Int) (mb nn : Nat) (D : DataW Unit) (fv : Value) (fresh : List ByteArray) (ws : List Int) (e : Ending) (w' : World) : Prop :=
  ∃ own A' tv' col', Laid A ws own A' ∧ e = .returned (.tuple #[.int .u64 (((own : Nat) + 1 : Int) * 8 + 5), .nilIface]) ∧ Hs w0 w' col' hb ab tb bb sv least sl A' names N a ∧
    LOwn (Fi col' w' 5) w' lb hb tv' (tks ++ [((own : Nat) + 1 : Int) * 8 + 5]) mb nn D fv fresh ∧ Go0 col w col' w'

set_option maxRecDepth 100000 in
set_option maxHeartbeats 1000000 in
theorem block_any (h : Hs w0 w col hb ab tb bb sv least sl A names N a) (hL : LOwn (Fi col w 5) w lb hb tv tks mb nn D fv fresh) (hn : tks.length ≤ 1000000000)
    (k m : Int) (hk1 : 1 ≤ k) (hk2 : k ≤ 4) (hm1 : 0 ≤ m) (hm2 : m ≤ 1048576) {l : List Int} {v : Value} {K : Nat → Prop} (hv : WordsAt K w l v) (hK : ∀ q, K q → ¬ Fi col w 2 q) (hl : l.length ≤ 65536) (hw : ∀ x ∈ l, 0 ≤ x ∧ x ≤ 18446744073709551615) :
    Calls Tryz.prog 132 #[.pointer (some ⟨lb, 0, none⟩), .int .i64 k, .int .i64 m, v] w fun e w' =>
      BlockTo w0 w col lb hb ab tb bb sv least sl A names N a tks mb nn D fv fresh ((m * 64 + k * 8 + 7) :: l) e w' ∨
      ((A.quota < A.used + 2 ^ cls (l.length + 1) ∨ Nowhere A (cls (l.length + 1))) ∧ EBad w (fun v => .tuple #[.int .u64 0, v]) [Lk.fault allocS (l.length + 1 : Nat), Lk.kind 2] e w') := by
  obtain ⟨c0, c1, _, _, c4⟩ := hL.cells
  have H := Lib.hid (And.intro h hL)
  have HV := Lib.hid (And.intro hv (And.intro hK hw))
  clear h hL hv hK hw
  go_enter Tryz.func132, Tryz.ntmps132
  go_wp2_with fail
  refine (lay_any H.out.1.ar H.out.1.notA k m hk1 hk2 hm1 hm2 HV.out.1 HV.out.2.1 hl HV.out.2.2).mono ?_
  rintro e w1 (⟨own, A1, hla, rfl, hA, hk⟩ | ⟨hno, ve, rfl, hch, hk⟩)
  · have h1 := H.out.1.stepA hA hk
    have hL1 := H.out.2.step (i := 2) (by omega) hk
    obtain ⟨wd, hwd⟩ : ∃ wd : Int, ((own : Nat) + 1 : Int) * 8 + 5 = wd := ⟨_, rfl⟩
    rw [hwd]
    obtain ⟨_, d1, _, _, d4⟩ := hL1.cells
    have hown := hL1.tk
    obtain ⟨po, cap, rfl⟩ := slice_form hown
    obtain ⟨T, hT⟩ : ∃ T, tks.length = T := ⟨_, rfl⟩
    have H1 := Lib.hid (And.intro h1 (And.intro hL1 (And.intro (Go0.of (by omega) hk) (And.intro hla (And.intro hwd hT)))))
    rw [hT] at hown hn
    clear h1 hA hk hL1 hla hwd
    obtain ⟨i0, hi, hz0, hz1, hz2⟩ := info_parts Tryz.infoU64
    have hoA : ∀ o, (w1.alloc o).ownsRow 0 27 1 (.slice po T cap) T (words tks) := fun o => hown.alloc o
    have hnA : ∀ j u, [Value.int .u64 wd][j]? = some u → (w1.alloc (.cells #[.int .u64 wd] 27)).cell? ((⟨w1.heap.size, 0, none⟩ : Addr).add j) = some u :=
      World.news_of_block (cs := #[Value.int .u64 wd]) (heap_alloc_new w1 (.cells #[.int .u64 wd] 27))
    have hone : ∀ u ∈ [Value.int .u64 wd], u.oneCell' = true := by intro u hu; simp at hu; subst hu; rfl
    have hcap1 : T + 1 ≤ maxLen := by unfold maxLen; omega
    have hcap2 : (T + 1) * 8 ≤ 140737488355328 := by omega
    have Hc := Lib.hid (And.intro hcap1 (And.intro hcap2 hown))
    rw [hT] at d1
    clear hcap1 hcap2 hown hT
    go_wp2_with (at_builtin; refine wpList_append_lies _ rfl _ _ 34 rfl 0 27 i0 (.int .u64 0) 1 8 Tryz.underlying34 hi hz0 hz1 hz2 rfl (by omega) (.slice po T cap) T _ rfl (hoA _) ⟨w1.heap.size, 0, none⟩ 1 1 [.int .u64 wd] rfl rfl hnA hone (by omega) Hc.out.1 Hc.out.2.1 (Nat.zero_le _) (w1.heap.size + 1) (by simp) ?_; intro g1 cap1 w3 hrow hgrow hat hlt3; refine Hid.out ?_)
    have hT := H1.out.2.2.2.2.2
    subst hT
    have hlb : lb < w1.heap.size := H1.out.2.1.lt lb H1.out.2.1.inG
    have hntk : ¬ (Value.slice po tks.length cap).ownBlock = some lb := fun e => (H1.out.2.1.tkG lb e).2 rfl
    have hkk : Kp (fun q => (Value.slice po tks.length cap).ownBlock = some q) w1 w3 := ((Kp.refl _ w1).alloc _).grown hgrow (fun q hq => .inl hq)
    have e0 : ∀ j, w3.frozen? ⟨lb, j, none⟩ = false := fun j => (hkk.frozen (p := ⟨lb, j, none⟩) hlb hntk).trans (d4 j)
    have e1 : w3.cell? ⟨lb, 1, none⟩ = some (.slice po tks.length cap) := (hkk.cell (p := ⟨lb, 1, none⟩) hlb hntk).trans d1
    have htook := H1.out.2.1.took (w1 := w3) (g := g1) (cap := cap1) (x := wd) hkk (by simpa [words] using hrow) (by
      rcases hat with e | e
      · exact .inl e
      · exact .inr (by omega)) hlt3
    have Ht := Lib.hid htook
    clear htook hkk hrow hgrow hat hntk
    refine Lib.hid ?_
    go_wp2_with fail
    go_ret2
    obtain ⟨q1, q2⟩ := Ht.out
    exact .inl ⟨own, A1, _, _, H1.out.2.2.2.1, by rw [H1.out.2.2.2.2.1]; rfl, H1.out.1.stepL q2, by rw [H1.out.2.2.2.2.1]; exact q1.more (Fi_ext q2.size) Fi_lt, H1.out.2.2.1.trans (Go0.of (by omega) q2)⟩
  · have hch' := hch
    rcases hch' with ⟨_, _, _, _, hbad⟩ | ⟨_, g, inner, _, rfl, _⟩
    · exact absurd rfl hbad
    · have HE := Lib.hid (And.intro hno (And.intro hch hk))
      clear hno hk hch
      go_wp2_with fail
      go_ret2
      exact .inr ⟨HE.out.1, _, rfl, HE.out.2⟩
end
end Go.Proofs.YtkcmfldcdokobaaGreatDoor

/- A Store's end where nothing is new: errors.As of nil, tellNames of none. -/
namespace Go.Proofs.YtkcmfldcdokobaaGreatDoor
open Go.RowKit Go.Maps

theorem as_nil (v : Value) (w : World) : Calls Tryz.prog 47 #[.nilIface, v] w fun e w' => e = .returned (.bool false) ∧ w = w' := by
  go_enter Tryz.func47, Tryz.ntmps47
  go_wp2_with fail
  go_ret
  exact ⟨rfl, rfl⟩

section
variable {G : Nat → Prop} {w : World} {lb hb mb nn : Nat} {tv fv : Value} {tks : List Int} {D : DataW Unit}
theorem tell_none (h : LOwn G w lb hb tv tks mb nn D fv []) : Calls Tryz.prog 50 #[.pointer (some ⟨lb, 0, none⟩)] w fun e w' => e = .returned (.tuple #[]) ∧ w = w' := by
  obtain ⟨_, _, _, c3, _⟩ := h.cells
  obtain ⟨po, cap, rfl⟩ := slice_form h.fr
  clear h
  go_enter Tryz.func50, Tryz.ntmps50
  go_wp2_with fail
  refine wp_loop_rounds 1 ?_
  rw [rounds_succ]
  go_wp2_with fail
  refine bodyPost_end (results_none rfl _ _ _) rfl ?_
  exact ⟨rfl, rfl⟩
end
end Go.Proofs.YtkcmfldcdokobaaGreatDoor
