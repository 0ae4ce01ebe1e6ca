/- A list of a Store under way. -/
import Derived.Test.YtkcmfldcdokobaaGreatDoorM33
/- A list of a Store under way. -/
namespace Go.Proofs.YtkcmfldcdokobaaGreatDoor
open Go.RowKit Go.Maps Go.Shelf
attribute [local go_sem] Oper.semAt_some

/-- the boxes of the method list: l, t, its results, behind -/
structure Boxes (B lb : Nat) (cs : Array Value) (r0 r1 : Value) (y : Int) (W : World) (col : Nat → Nat) : Prop where
  l : W.heap[B]? = some (.cells #[.pointer (some ⟨lb, 0, none⟩)] 162 (0, 0))
  t : W.heap[B + 1]? = some (.cells cs 41 (0, 0))
  r0 : W.heap[B + 1 + 1]? = some (.cells #[r0] 27 (0, 0))
  r1 : W.heap[B + 1 + 1 + 1]? = some (.cells #[r1] 29 (0, 0))
  y : W.heap[B + 1 + 1 + 1 + 1]? = some (.cells #[.int .u64 y] 27 (0, 0))
  col : ∀ q, B ≤ q → q ≤ B + 1 + 1 + 1 + 1 → col q = 0
theorem Boxes.go {B lb : Nat} {cs : Array Value} {r0 r1 : Value} {y : Int} {W W' : World} {col col' : Nat → Nat} (h : Boxes B lb cs r0 r1 y W col) (hg : Go0 col W col' W') : Boxes B lb cs r0 r1 y W' col' :=
  ⟨(hg.block h.l (h.col _ (by omega) (by omega))).1, (hg.block h.t (h.col _ (by omega) (by omega))).1, (hg.block h.r0 (h.col _ (by omega) (by omega))).1, (hg.block h.r1 (h.col _ (by omega) (by omega))).1, (hg.block h.y (h.col _ (by omega) (by omega))).1, fun q h1 h2 => by
    have := (Array.getElem?_eq_some_iff.1 h.y).1
    exact (hg.old q (by omega)).trans (h.col q h1 h2)⟩
theorem Boxes.set {B lb : Nat} {cs : Array Value} {r0 r1 : Value} {y z : Int} {W : World} {col : Nat → Nat} (h : Boxes B lb cs r0 r1 y W col) : Boxes B lb cs r0 r1 z (W.setCell ⟨B + 1 + 1 + 1 + 1, 0, none⟩ (.int .u64 z)) (recol col W 0) := by
  have hl := (Array.getElem?_eq_some_iff.1 h.y).1
  have ho : ∀ q, q ≠ B + 1 + 1 + 1 + 1 → (W.setCell ⟨B + 1 + 1 + 1 + 1, 0, none⟩ (.int .u64 z)).heap[q]? = W.heap[q]? := fun q hq => Below.heap_setCell _ _ _ _ hq
  refine ⟨(ho _ (by omega)).trans h.l, (ho _ (by omega)).trans h.t, (ho _ (by omega)).trans h.r0, (ho _ (by omega)).trans h.r1, ?_, fun q h1 h2 => by unfold recol; rw [if_pos (by omega)]; exact h.col q h1 h2⟩
  rw [heap_set_same h.y]
  rfl

section
variable {w0 w : World} {col : Nat → Nat} {lb hb ab tb bb least N mb : Nat} {sv : Value} {sl : List (Int × Bool)} {names : List ByteArray} {S : St}
theorem recol_0 {q : Nat} (h : col q = 0) : recol col w 0 q = 0 := by
  unfold recol
  split
  · exact h
  · rfl
theorem LEnds.bad {w2 w3 : World} {col2 : Nat → Nat} {G : Nat → Prop} {S2 : St} {op : ByteArray} {nn : Int} {v : Value} {Q : Int → St → Prop} {C : Nat} {V : Nat → Nat} (hs : Steps names S S2) (hK : S2.K ≤ C) (hV : Stuck names V S2) (h3 : LAt w0 w2 col2 lb hb ab tb bb sv least sl names N mb S2) (hg : Go0 col w col2 w2) (hc : CBad col2 w2 op nn v) (hk : Kp G w2 w3)
    (h0 : w0.heap.size ≤ w.heap.size) (hG : ∀ q, G q → q < w2.heap.size → col2 q = 0 ∧ w.heap.size ≤ q) (hF : ∀ q cs f, G q → w2.heap[q]? ≠ some (.cells cs 181 f)) : LEnds w0 w col lb hb ab tb bb sv least sl names N mb S Q C V (.returned (.tuple #[.int .u64 0, v])) w3 := by
  obtain ⟨g, rfl, hh, h0g⟩ := hc
  have hgl := (Array.getElem?_eq_some_iff.1 hh).1
  exact ⟨S2, recol col2 w2 0, hs, hK, h3.aside hk (fun q e hq => ⟨(hG q e hq).1, Nat.le_trans h0 (hG q e hq).2⟩), hg.aside hk (fun q e hq => (hG q e hq).2), .inr ⟨_, op, nn, rfl, ⟨g, rfl, (hk.block g hgl (fun e => hF g _ _ e hh)).trans hh, by unfold recol; rw [if_pos hgl]; exact h0g⟩, hV⟩⟩
theorem LAt.cells' (h : LAt w0 w col lb hb ab tb bb sv least sl names N mb S) {B : Nat} (h3 : ∀ q, B ≤ q → col q ≠ 3) (hB : w0.heap.size ≤ B) (hm : mb < B) : LAt w0 w (cellcol col w B) lb hb ab tb bb sv least sl names N mb S := by
  obtain ⟨tv, fv, nn, D, ks, h1, h2, hk⟩ := h
  exact ⟨tv, fv, nn, D, ks, h1.cells h3 hB, h2.cells' hm, hk⟩
theorem LAt.mapLt (h : LAt w0 w col lb hb ab tb bb sv least sl names N mb S) : mb < w.heap.size := by
  obtain ⟨tv, fv, nn, D, ks, h1, h2, hk⟩ := h
  exact h2.map.lt
/-- a block of cells is as it was where something that is no cells turns -/
theorem turn_cell {W W' : World} {col' : Nat → Nat} {row : Option Nat} {B q : Nat} {cs : Array Value} {t : TypeId} {f : Nat × Nat} (h : W.heap[q]? = some (.cells cs t f)) (hg : W.grownBy W' row) (hr : ∀ r, row = some r → B ≤ r ∧ ∃ o : Obj, W.heap[r]? = some o ∧ o.isCells = false) :
    W'.heap[q]? = some (.cells cs t f) ∧ recol col' W 0 q = col' q := by
  have hq := (Array.getElem?_eq_some_iff.1 h).1
  refine ⟨(hg.block q hq fun e => ?_).trans h, by unfold recol; rw [if_pos hq]⟩
  obtain ⟨_, o, ho, hn⟩ := hr q e.symm
  rw [h] at ho
  cases ho
  cases hn
theorem Boxes.turn {W W' : World} {col' : Nat → Nat} {row : Option Nat} {B Bw : Nat} {cs : Array Value} {r0 r1 : Value} {y : Int} (h : Boxes B lb cs r0 r1 y W col') (hg : W.grownBy W' row) (hr : ∀ r, row = some r → Bw ≤ r ∧ ∃ o : Obj, W.heap[r]? = some o ∧ o.isCells = false) : Boxes B lb cs r0 r1 y W' (recol col' W 0) :=
  ⟨(turn_cell (col' := col') h.l hg hr).1, (turn_cell (col' := col') h.t hg hr).1, (turn_cell (col' := col') h.r0 hg hr).1, (turn_cell (col' := col') h.r1 hg hr).1, (turn_cell (col' := col') h.y hg hr).1, fun q h1 h2 => by
    have := (Array.getElem?_eq_some_iff.1 h.y).1
    unfold recol
    rw [if_pos (by omega)]
    exact h.col q h1 h2⟩

theorem Boxes.setR {W : World} {col' : Nat → Nat} {B : Nat} {cs : Array Value} {r0 r1 : Value} {y : Int} (h : Boxes B lb cs r0 r1 y W col') (q0 q1 : Value) : Boxes B lb cs q0 q1 y ((W.setCell ⟨B + 1 + 1, 0, none⟩ q0).setCell ⟨B + 1 + 1 + 1, 0, none⟩ q1) (recol col' W 0) := by
  have hl := (Array.getElem?_eq_some_iff.1 h.y).1
  have ho : ∀ q, q ≠ B + 1 + 1 → q ≠ B + 1 + 1 + 1 → ((W.setCell ⟨B + 1 + 1, 0, none⟩ q0).setCell ⟨B + 1 + 1 + 1, 0, none⟩ q1).heap[q]? = W.heap[q]? := fun q h1 h2 => (Below.heap_setCell _ _ _ _ h2).trans (Below.heap_setCell _ _ _ _ h1)
  refine ⟨(ho _ (by omega) (by omega)).trans h.l, (ho _ (by omega) (by omega)).trans h.t, ?_, ?_, (ho _ (by omega) (by omega)).trans h.y, fun q h1 h2 => by unfold recol; rw [if_pos (by omega)]; exact h.col q h1 h2⟩
  · rw [Below.heap_setCell _ _ _ _ (by simp only; omega), heap_set_same h.r0]
    rfl
  · rw [heap_set_same (w := W.setCell ⟨B + 1 + 1, 0, none⟩ q0) ((Below.heap_setCell _ _ _ _ (by simp only; omega)).trans h.r1)]
    rfl
theorem CBad.aside {W W' : World} {col' : Nat → Nat} {G : Nat → Prop} {op : ByteArray} {nn : Int} {v : Value} (hc : CBad col' W op nn v) (hk : Kp G W W') (hF : ∀ q cs f, G q → W.heap[q]? ≠ some (.cells cs 181 f)) : CBad (recol col' W 0) W' op nn v := by
  obtain ⟨g, rfl, hh, h0g⟩ := hc
  exact ⟨g, rfl, (hk.block g (Array.getElem?_eq_some_iff.1 hh).1 (fun e => hF g _ _ e hh)).trans hh, recol_0 h0g⟩
/-- what the boxes of the results and of behind are not -/
theorem Boxes.notFault {W : World} {col' : Nat → Nat} {B : Nat} {cs : Array Value} {r0 r1 : Value} {y : Int} (h : Boxes B lb cs r0 r1 y W col') (q : Nat) (ds : Array Value) (f : Nat × Nat) (hq : q = B + 1 + 1 ∨ q = B + 1 + 1 + 1 ∨ q = B + 1 + 1 + 1 + 1) : W.heap[q]? ≠ some (.cells ds 181 f) := by
  intro hh
  rcases hq with rfl | rfl | rfl
  · exact blk_ne hh h.r0 (by decide) rfl
  · exact blk_ne hh h.r1 (by decide) rfl
  · exact blk_ne hh h.y (by decide) rfl

/-- a list's items between two rounds: the heap so far -/
structure ListC (w0 w : World) (col : Nat → Nat) (Bw Bk lb hb ab tb bb : Nat) (sv : Value) (least : Nat) (sl : List (Int × Bool)) (names : List ByteArray) (N mb : Nat) (S : St) (B : Nat) (cs : Array Value) (r0 r1 : Value) (y : Int) (col' : Nat → Nat) (S' : St) (W : World) : Prop where
  go : Go0 col w col' W
  cf : CellsFrom col' W Bw
  at' : LAt w0 W col' lb hb ab tb bb sv least sl names N mb S'
  st : Steps names S S'
  bx : Boxes B lb cs r0 r1 y W col'
  bk : Bk < W.heap.size ∧ col' Bk = 0
theorem ListC.turn {W W' : World} {Bw Bk B : Nat} {cs : Array Value} {r0 r1 : Value} {y : Int} {col' : Nat → Nat} {S' : St} {row : Option Nat} (h : ListC w0 w col Bw Bk lb hb ab tb bb sv least sl names N mb S B cs r0 r1 y col' S' W) (h0 : w0.heap.size ≤ w.heap.size) (hw : w.heap.size ≤ Bw)
    (hg : W.grownBy W' row) (hr : ∀ r, row = some r → Bw ≤ r ∧ ∃ o : Obj, W.heap[r]? = some o ∧ o.isCells = false) : ListC w0 w col Bw Bk lb hb ab tb bb sv least sl names N mb S B cs r0 r1 y (recol col' W 0) S' W' := by
  obtain ⟨hk, hG, hcf⟩ := h.cf.col0 hr hg
  exact ⟨h.go.aside hk fun q e hq => Nat.le_trans hw (hG q e hq).2, hcf, h.at'.aside hk fun q e hq => ⟨(hG q e hq).1, by have := (hG q e hq).2; omega⟩, h.st, h.bx.turn hg hr, Nat.lt_of_lt_of_le h.bk.1 hg.size, recol_0 h.bk.2⟩

set_option maxRecDepth 100000 in
set_option maxHeartbeats 2000000 in
theorem list_ends {h : Nat} (ih : TermIs w0 lb hb ab tb bb sv least sl names N mb h) {F : Nat → Prop} {k n : Int} {s : ByteArray} {it re : List Tm} {bys : List UInt8} {vi vr vb : Value} (hI : ListAt F w (TermAt F w h) it vi) (hR : ListAt F w (TermAt F w h) re vr) (hL : LAt w0 w col lb hb ab tb bb sv least sl names N mb S)
    (hB : BytesAt F w bys vb) (hF : ∀ q, F q → q < w.heap.size → col q = 0) (hok : ∀ t ∈ it, tok 200 t) (hokr : ∀ t ∈ re, tok 200 t) (hre : re = [] ∨ ∃ t, re = [t]) (hsz : 1 + (it.map (tsz h)).sum + (re.map (tsz h)).sum ≤ 65536) (hK : S.K + 3 * (1 + (it.map (tsz h)).sum + (re.map (tsz h)).sum) ≤ 300000) (hlen : it.length ≤ 65535) :
    Calls Tryz.prog 129 #[.pointer (some ⟨lb, 0, none⟩), .agg #[.int .i64 k, .int .i64 n, .string s, vi, vr, vb]] w (LEnds w0 w col lb hb ab tb bb sv least sl names N mb S
      (fun x S' => ∃ y S1, ((re = [] ∧ y = 4 ∧ S1 = S) ∨ ∃ t, re = [t] ∧ Lays names h S t y S1) ∧ LaysBack (Lays names h) S1 y it x S') (S.K + 3 * (1 + (it.map (tsz h)).sum + (re.map (tsz h)).sum) - 1) (fun i => pot S i + ownCost 7 it.length 0 i + (it.map fun t => cost h t i).sum + (re.map fun t => cost h t i).sum)) := by
  have hI' := hI
  have hR' := hR
  obtain ⟨p1, c1, rfl, hcap1, hln1, hel1⟩ := hI
  obtain ⟨p2, c2, rfl, hcap2, hln2, hel2⟩ := hR
  obtain ⟨p3, l3, c3, rfl⟩ := hB.form
  have H := Lib.hid (And.intro ih (And.intro hI' (And.intro hR' (And.intro hL (And.intro hF (And.intro hok (And.intro hokr (And.intro hre (And.intro hsz hK)))))))))
  clear ih hI' hR' hL hF hok hokr hre hsz hK hel1 hel2 hB
  refine (callsIn_wide (n := 9)).1 (callsIn_of_wp_marks Tryz.func129 rfl trivial ?_ rfl)
  simp only [Tryz.ntmps129, List.size_toArray, List.length_cons, List.length_nil, Nat.reduceAdd, Nat.reduceSub, Array.replicate_succ, Array.replicate_zero, List.push_toArray, List.append_toArray, List.nil_append, List.cons_append]
  obtain ⟨w5, hw5⟩ : ∃ w5, (((((w.alloc (.cells #[.pointer (some ⟨lb, 0, none⟩)] 162)).alloc (.cells #[.int .i64 k, .int .i64 n, .string s, .slice p1 it.length c1, .slice p2 re.length c2, .slice p3 l3 c3] 41)).alloc (.cells #[.int .u64 0] 27)).alloc (.cells #[.nilIface] 29)).alloc (.cells #[.int .u64 4] 27)) = w5 := ⟨_, rfl⟩
  have hk5 : Kp (fun _ => False) w w5 := by rw [← hw5]; exact ((((((Kp.refl _ w).alloc _).alloc _).alloc _).alloc _).alloc _)
  have hz5 : w5.heap.size = w.heap.size + 5 := by rw [← hw5]; simp
  have hbx : Boxes w.heap.size lb #[.int .i64 k, .int .i64 n, .string s, .slice p1 it.length c1, .slice p2 re.length c2, .slice p3 l3 c3] (.int .u64 0) .nilIface 4 w5 (recol col w 0) := by
    rw [← hw5]
    refine ⟨?_, ?_, ?_, ?_, ?_, fun q h1 h2 => recol_new q h1⟩
    · rw [Below.heap_alloc _ _ _ (by simp <;> omega), Below.heap_alloc _ _ _ (by simp <;> omega), Below.heap_alloc _ _ _ (by simp <;> omega), Below.heap_alloc _ _ _ (by simp)]
      exact heap_alloc_new w _
    · rw [Below.heap_alloc _ _ _ (by simp <;> omega), Below.heap_alloc _ _ _ (by simp <;> omega), Below.heap_alloc _ _ _ (by simp)]
      have := heap_alloc_new (w.alloc (.cells #[.pointer (some ⟨lb, 0, none⟩)] 162)) (.cells #[.int .i64 k, .int .i64 n, .string s, .slice p1 it.length c1, .slice p2 re.length c2, .slice p3 l3 c3] 41)
      rwa [World.size_alloc] at this
    · rw [Below.heap_alloc _ _ _ (by simp <;> omega), Below.heap_alloc _ _ _ (by simp)]
      have := heap_alloc_new ((w.alloc (.cells #[.pointer (some ⟨lb, 0, none⟩)] 162)).alloc (.cells #[.int .i64 k, .int .i64 n, .string s, .slice p1 it.length c1, .slice p2 re.length c2, .slice p3 l3 c3] 41)) (.cells #[.int .u64 0] 27)
      rwa [World.size_alloc, World.size_alloc] at this
    · rw [Below.heap_alloc _ _ _ (by simp)]
      have := heap_alloc_new (((w.alloc (.cells #[.pointer (some ⟨lb, 0, none⟩)] 162)).alloc (.cells #[.int .i64 k, .int .i64 n, .string s, .slice p1 it.length c1, .slice p2 re.length c2, .slice p3 l3 c3] 41)).alloc (.cells #[.int .u64 0] 27)) (.cells #[.nilIface] 29)
      rwa [World.size_alloc, World.size_alloc, World.size_alloc] at this
    · have := heap_alloc_new ((((w.alloc (.cells #[.pointer (some ⟨lb, 0, none⟩)] 162)).alloc (.cells #[.int .i64 k, .int .i64 n, .string s, .slice p1 it.length c1, .slice p2 re.length c2, .slice p3 l3 c3] 41)).alloc (.cells #[.int .u64 0] 27)).alloc (.cells #[.nilIface] 29)) (.cells #[.int .u64 4] 27)
      rwa [World.size_alloc, World.size_alloc, World.size_alloc, World.size_alloc] at this
  have H5 := Lib.hid (And.intro (Go0.same (col := col) hk5) (And.intro (H.out.2.2.2.1.same hk5) (And.intro hbx (And.intro hz5 hw5))))
  clear hk5 hz5 hbx hw5
  obtain ⟨rl, hrl⟩ : ∃ rl, re.length = rl := ⟨_, rfl⟩
  have Hrl := Lib.hid hrl
  have hrl1 : rl ≤ 1 := by
    rcases H.out.2.2.2.2.2.2.2.1 with e | ⟨t, e⟩ <;> rw [e] at hrl <;> simp at hrl <;> omega
  rw [hrl] at hcap2 hln2 ⊢
  clear hrl
  gi_wp2
  have hw5 := H5.out.2.2.2.2
  rw [Hrl.out] at hw5
  rw [hw5]
  clear hw5
  gi_loopw [18] (fun i wr => ∃ (j : Nat) (col' : Nat → Nat) (S1 : St) (y : Int), i = .int .i64 j ∧ j ≤ rl ∧ (Go0 col w col' wr ∧ LAt w0 wr col' lb hb ab tb bb sv least sl names N mb S1 ∧ Steps names S S1 ∧ Boxes w.heap.size lb #[.int .i64 k, .int .i64 n, .string s, .slice p1 it.length c1, .slice p2 rl c2, .slice p3 l3 c3] (.int .u64 0) .nilIface y wr col' ∧
    S1.K + j ≤ S.K + 3 * ((re.take j).map (tsz h)).sum ∧ (0 ≤ y ∧ y ≤ 18446744073709551615) ∧ ((j = 0 ∧ y = 4 ∧ S1 = S) ∨ ∃ t, j = 1 ∧ re = [t] ∧ Lays names h S t y S1) ∧ ∀ i, pot S1 i ≤ pot S i + ((re.take j).map fun t => cost h t i).sum))
    (fun i _ => rl - (intOf i).toNat)
  case atStart =>
    refine ⟨0, _, S, 4, rfl, by omega, H5.out.1, H5.out.2.1, .none, ?_, by simp, by omega, .inl ⟨rfl, rfl, rfl⟩, fun i => by simp⟩
    have := H5.out.2.2.1
    rwa [Hrl.out] at this
  case round =>
    obtain ⟨j, col', S1, y, rfl, hj, g1, g2, g3, g4, g5, g6, g7, gV⟩ := hrel
    by_cases hlt : j < rl
    · obtain ⟨hih, hI, hR, hL, hF, hok, hokr, hre, hsz, hK⟩ := H.out
      obtain rfl : j = 0 := by omega
      obtain ⟨t, ht⟩ : ∃ t, re = [t] := by
        rcases hre with e | h
        · have := Hrl.out
          rw [e] at this
          simp at this
          omega
        · exact h
      have ht0 : re[0]? = some t := by rw [ht]; rfl
      obtain ⟨b, off, cap', cs, hv, hFb, hbl, h6, hT⟩ := hR.six ht0
      injection hv with hv _ hv2
      subst hv hv2
      have h6r := h6.go g1 (hF b hFb hbl)
      obtain ⟨k0, n0, s0, a0, l0, c0, a1, l1, cc1, a2, l2, cc2, rfl, x0, x1, x2, x3, x4, x5⟩ := h6r
      simp only [Nat.zero_mul, Nat.add_zero] at x0 x1 x2 x3 x4 x5
      have hTl := (hT.low.go g1 (fun q hq h => hF q hq.1 h) : TermAt (fun q => F q ∧ q < w.heap.size) wr h t _)
      obtain ⟨wq, hwq⟩ : ∃ wq, wr.alloc (.cells #[.int .i64 k0, .int .i64 n0, .string s0, .slice a0 l0 c0, .slice a1 l1 cc1, .slice a2 l2 cc2] 41) = wq := ⟨_, rfl⟩
      have hkq : Kp (fun _ => False) wr wq := by rw [← hwq]; exact (Kp.refl _ wr).alloc _
      have hgq := Go0.same (col := col') hkq
      have hszt : (re.map (tsz h)).sum = tsz h t := by rw [ht]; simp
      have hcall := hih (fun q => F q ∧ q < w.heap.size) t wq _ _ S1 (hTl.kp hkq (fun _ _ e => e)) (g2.same hkq) (fun q hq _ => (hgq.old q (Nat.lt_of_lt_of_le hq.2 g1.kp.size)).trans ((g1.old q hq.2).trans (hF q hq.1 hq.2))) (hokr t (by rw [ht]; simp)) (by omega) (by simp at g5; omega)
      have hlv : (wr.alloc (.cells #[.int .i64 k0, .int .i64 n0, .string s0, .slice a0 l0 c0, .slice a1 l1 cc1, .slice a2 l2 cc2] 41)).cell? ⟨w.heap.size, 0, none⟩ = some (.pointer (some ⟨lb, 0, none⟩)) := by rw [hwq]; exact cell_of (g4.go hgq).l 0
      have HC := Lib.hid (And.intro hcall (And.intro (g1.trans hgq) (And.intro g3 (And.intro (g4.go hgq) (And.intro g5 (And.intro (And.intro ht hszt) (And.intro g7 (And.intro (tsz_pos hT) (And.intro gV hwq)))))))))
      clear hih hI hR hL hF hok hokr hre hsz hK h6 hT hTl hcall g1 g2 g3 g4 g5 g6 g7 gV hkq hgq hwq ht0 ht hszt hFb hbl
      gi_wp2_with (refine ⟨trivial, ?_⟩; gi_at_call 84; rw [HC.out.2.2.2.2.2.2.2.2.2]; refine (callsIn_wide.2 HC.out.1).mono ?_; rintro e w2 ⟨S2, col2, k1, k2, k3, k4, ⟨x, rfl, k5, k6, k7, kV⟩ | ⟨v, op, nn, rfl, k5, kS⟩⟩ <;> refine Hid.out ?_)
      · refine Lib.hid ?_
        have hb2 := HC.out.2.2.2.1.go k4
        have z0 : w2.cell? ⟨w.heap.size + 1 + 1 + 1 + 1, 0, none⟩ = some (.int .u64 y) := cell_of hb2.y 0
        have zf : w2.frozen? ⟨w.heap.size + 1 + 1 + 1 + 1, 0, none⟩ = false := frozen_of hb2.y 0
        have HK := Lib.hid (And.intro hb2 (And.intro k1 (And.intro k2 (And.intro k3 (And.intro k4 (And.intro k7 kV))))))
        clear hb2 k1 k2 k3 k4 k7 kV hlv x0 x1 x2 x3 x4 x5
        gi_wp2
        go_roundw
        case rel =>
          obtain ⟨hb2, k1, k2, k3, k4, k7, kV⟩ := HK.out
          obtain ⟨_, g1, g3, g4, g5, ⟨ht, hszt⟩, g7, hpos, gV, _⟩ := HC.out
          have hk3 : Kp (fun q => q = w.heap.size + 1 + 1 + 1 + 1) w2 (w2.setCell ⟨w.heap.size + 1 + 1 + 1 + 1, 0, none⟩ (.int .u64 x)) := (Kp.refl _ w2).setCell _ _ (.inl rfl)
          have h0z := H.out.2.2.2.1.size
          rcases g7 with ⟨_, rfl, rfl⟩ | ⟨_, h1, _⟩
          · refine ⟨1, _, S2, x, by go_num, by omega, (g1.trans k4).aside hk3 (fun q e _ => by omega), k3.aside hk3 (fun q e _ => by subst e; exact ⟨hb2.col _ (by omega) (by omega), by omega⟩), g3.trans k1, hb2.set, ?_, ⟨k5, k6⟩, .inr ⟨t, rfl, ht, k7⟩, fun i => ?_⟩
            · rw [ht]
              simp
              omega
            · rw [ht]
              have h1 := kV i
              simpa using h1
          · omega
        case measure => simp [intOf]; omega
      · refine Lib.hid ?_
        have hb2 := HC.out.2.2.2.1.go k4
        have z0 : w2.cell? ⟨w.heap.size + 1 + 1, 0, none⟩ = some (.int .u64 0) := cell_of hb2.r0 0
        have zf : w2.frozen? ⟨w.heap.size + 1 + 1, 0, none⟩ = false := frozen_of hb2.r0 0
        have z1 : w2.cell? ⟨w.heap.size + 1 + 1 + 1, 0, none⟩ = some .nilIface := cell_of hb2.r1 0
        have zg : w2.frozen? ⟨w.heap.size + 1 + 1 + 1, 0, none⟩ = false := frozen_of hb2.r1 0
        have hk5 := k5
        obtain ⟨g, rfl, _, _⟩ := hk5
        have HK := Lib.hid (And.intro hb2 (And.intro k1 (And.intro k2 (And.intro k3 (And.intro k4 (And.intro k5 kS))))))
        clear hb2 k1 k2 k3 k4 k5 kS hlv x0 x1 x2 x3 x4 x5
        gi_wp2
        obtain ⟨hb2, k1, k2, k3, k4, k5, kS⟩ := HK.out
        obtain ⟨_, g1, g3, g4, g5, ⟨ht, hszt⟩, g7, hpos, gV, _⟩ := HC.out
        have hKb := H.out.2.2.2.2.2.2.2.2.2
        have h0z := H.out.2.2.2.1.size
        have hne : w.heap.size + 1 + 1 ≠ w.heap.size + 1 + 1 + 1 := by omega
        refine ⟨.tuple #[.int .u64 0, .iface 95 (.pointer (some ⟨g, 0, none⟩))], ?_, LEnds.bad (G := fun q => q = w.heap.size + 1 + 1 ∨ q = w.heap.size + 1 + 1 + 1) (g3.trans k1) ?_ (kS.le fun i => ?_) k3 (g1.trans k4) k5 ?_ h0z (fun q e hq => ?_) (fun q cs f e hh => ?_)⟩
        · simp [results, Tryz.results129, go_sem, z0, z1]
        · rw [ht] at g5
          simp at g5
          rw [hszt] at hKb ⊢
          omega
        · have h1 := gV i
          rcases g7 with ⟨h2, _, _⟩ | ⟨_, h2, _⟩
          · rw [ht]
            simp at h1 ⊢
            omega
          · omega
        · exact ((Kp.refl _ w2).setCell _ _ (.inl (.inl rfl))).setCell _ _ (.inl (.inr rfl))
        · rcases e with rfl | rfl <;> exact ⟨hb2.col _ (by omega) (by omega), by omega⟩
        · rcases e with rfl | rfl
          · rw [hb2.r0] at hh
            injection hh with hh
            injection hh with _ hh
            exact absurd hh (by decide)
          · rw [hb2.r1] at hh
            injection hh with hh
            injection hh with _ hh
            exact absurd hh (by decide)
    · obtain rfl : j = rl := by omega
      have g7' : (re = [] ∧ y = 4 ∧ S1 = S) ∨ ∃ t, re = [t] ∧ Lays names h S t y S1 := by
        rcases g7 with ⟨h1, h2, h3⟩ | ⟨t, h1, h2, h3⟩
        · exact .inl ⟨List.length_eq_zero_iff.1 (Hrl.out.trans h1), h2, h3⟩
        · exact .inr ⟨t, h2, h3⟩
      have g5' : S1.K ≤ S.K + 3 * (re.map (tsz h)).sum := by
        rw [← Hrl.out, List.take_length] at g5
        omega
      obtain ⟨y0, y1⟩ := g6
      have hlv : wr.cell? ⟨w.heap.size + 1, 3, none⟩ = some (.slice p1 it.length c1) := cell_of g4.t 3
      have gV' : ∀ i, pot S1 i ≤ pot S i + (re.map fun t => cost h t i).sum := fun i => by
        have := gV i
        rwa [← Hrl.out, List.take_length] at this
      have HGV := Lib.hid gV'
      have HG := Lib.hid (And.intro g1 (And.intro g2 (And.intro g3 (And.intro g4 (And.intro g5' g7')))))
      clear g1 g2 g3 g4 g5 g5' g7 g7' gV gV'
      gi_wp2_with (refine ⟨trivial, ?_⟩; gi_at_call 151; refine (backward_terms _ _ _ _ _).mono ?_; rintro e w6 ⟨rfl, hw6⟩)
      obtain ⟨w6, hw6⟩ : ∃ w6, wr.alloc (.cells #[.slice p1 it.length c1] 38) = w6 := ⟨_, rfl⟩
      rw [hw6]
      have hk6 : Kp (fun _ => False) wr w6 := by rw [← hw6]; exact (Kp.refl _ wr).alloc _
      have hbox : w6.cell? ⟨wr.heap.size, 0, none⟩ = some (.slice p1 it.length c1) := by rw [← hw6]; exact cell_of (heap_alloc_new wr _) 0
      have hz6 : w6.heap.size = wr.heap.size + 1 := by rw [← hw6]; simp
      clear hw6
      obtain ⟨hih, hI, hR, hL, hF, hok, hokr, hre, hsz, hK⟩ := H.out
      obtain ⟨g1, g2, g3, g4, g5, g7⟩ := HG.out
      have hg6 := Go0.same (col := col') hk6
      have g16 := g1.trans hg6
      have hzw := g1.kp.size
      have hmb := hL.mapLt
      have h0z := hL.size
      have hzs : ∃ zs : Nat → Array Value, ∀ i t, it[i]? = some t → ∃ b off cap, Value.slice p1 it.length c1 = .slice (some ⟨b, off, none⟩) it.length cap ∧ F b ∧ b < w.heap.size ∧ SixAt w b (off + i * 6) (zs i) ∧ TermAt F w h t (zs i).toList := by
        have : ∀ i, ∃ cs : Array Value, ∀ t, it[i]? = some t → ∃ b off cap, Value.slice p1 it.length c1 = .slice (some ⟨b, off, none⟩) it.length cap ∧ F b ∧ b < w.heap.size ∧ SixAt w b (off + i * 6) cs ∧ TermAt F w h t cs.toList := fun i => by
          cases hi : it[i]? with
          | none => exact ⟨#[], fun t ht => by cases ht⟩
          | some t =>
            obtain ⟨b, off, cap, cs, e1, e2, e3, e4, e5⟩ := hI.six hi
            exact ⟨cs, fun t' ht => by cases ht; exact ⟨b, off, cap, e1, e2, e3, e4, e5⟩⟩
        exact ⟨fun i => Classical.choose (this i), fun i => Classical.choose_spec (this i)⟩
      obtain ⟨zs, hzs⟩ := hzs
      obtain ⟨Q, hQd⟩ : ∃ Q : Nat → Prop, Q = fun q => q = wr.heap.size ∨ (F q ∧ q < w.heap.size) := ⟨_, rfl⟩
      have hQ : ∀ q, Q q → q < w6.heap.size := fun q hq => by
        rw [hQd] at hq
        rcases hq with rfl | hq <;> omega
      obtain ⟨act, hact⟩ : ∃ act : (Nat × Array Value) → Nat → Act, act = fun x Bx => { tmps := #[.pointer (some ⟨lb, 0, none⟩), .agg #[.int .i64 k, .int .i64 n, .string s, .slice p1 it.length c1, .slice p2 j c2, .slice p3 l3 c3], .pointer (some ⟨w.heap.size, 0, none⟩), .pointer (some ⟨w.heap.size + 1, 0, none⟩), .pointer (some ⟨w.heap.size + 1 + 1, 0, none⟩), .pointer (some ⟨w.heap.size + 1 + 1 + 1, 0, none⟩), .pointer (some ⟨w.heap.size + 1 + 1 + 1 + 1, 0, none⟩), undef, u8, u9, u10, undef, .pointer (some ⟨Bx, 0, none⟩), undef, undef, .pointer (some ⟨w.heap.size + 1, 4, none⟩), .slice p2 j c2, .int .i64 j, .int .i64 j, .bool false, u20, u21, u22, u23, u24, u25, u26, u27, u28, u29, u30, u31, u32, .pointer (some ⟨w.heap.size + 1, 3, none⟩), .slice p1 it.length c1, .func (.func 164) #[] #[.pointer (some ⟨wr.heap.size, 0, none⟩)], .int .i64 (x.1 : Int), .agg x.2, undef, undef, undef, undef, undef, undef, undef, undef, undef, undef, undef, undef, undef, undef, undef, undef, undef, undef, undef, undef, undef], defers := [] } := ⟨_, rfl⟩
      have hstart : ListC w0 w col w6.heap.size wr.heap.size lb hb ab tb bb sv least sl names N mb S w.heap.size #[.int .i64 k, .int .i64 n, .string s, .slice p1 it.length c1, .slice p2 j c2, .slice p3 l3 c3] (.int .u64 0) .nilIface y (cellcol (recol col' wr 0) w6 w6.heap.size) S1 w6 := by
        refine ⟨g16.cells (by omega), cellcol_from, (g2.same hk6).cells' (fun q hq => by rw [recol_new q (by omega)]; omega) (by omega) (by omega), g3, ?_, by omega, cellcol_0 (recol_new _ (Nat.le_refl _))⟩
        have := g4.go hg6
        exact ⟨this.l, this.t, this.r0, this.r1, this.y, fun q h1 h2 => cellcol_0 (this.col q h1 h2)⟩
      obtain ⟨I, hI'⟩ : ∃ I : Nat → World → Prop, I = (fun i W => ∃ (col' : Nat → Nat) (S' : St) (x : Int), ListC w0 w col w6.heap.size wr.heap.size lb hb ab tb bb sv least sl names N mb S w.heap.size #[.int .i64 k, .int .i64 n, .string s, .slice p1 it.length c1, .slice p2 j c2, .slice p3 l3 c3] (.int .u64 0) .nilIface x col' S' W ∧ (0 ≤ x ∧ x ≤ 18446744073709551615) ∧ i ≤ it.length ∧ S'.K ≤ S.K + 3 * (re.map (tsz h)).sum + 3 * ((it.drop (it.length - i)).map (tsz h)).sum ∧ LaysBack (Lays names h) S1 y (it.drop (it.length - i)) x S' ∧ ∀ q, pot S' q ≤ pot S q + (if q = 0 then i * 4 else 0) + (re.map fun t => cost h t q).sum + ((it.drop (it.length - i)).map fun t => cost h t q).sum) := ⟨_, rfl⟩
      obtain ⟨X, hX'⟩ : ∃ X : Unit → World → Prop, X = (fun _ W => ∃ (col' : Nat → Nat) (S' : St) (x : Int) (v : Value) (op : ByteArray) (nn : Int), ListC w0 w col w6.heap.size wr.heap.size lb hb ab tb bb sv least sl names N mb S w.heap.size #[.int .i64 k, .int .i64 n, .string s, .slice p1 it.length c1, .slice p2 j c2, .slice p3 l3 c3] (.int .u64 0) v x col' S' W ∧ CBad col' W op nn v ∧ S'.K ≤ S.K + 3 * (1 + (it.map (tsz h)).sum + (re.map (tsz h)).sum) - 1 ∧ Stuck names (fun i => pot S i + ownCost 7 it.length 0 i + (it.map fun t => cost h t i).sum + (re.map fun t => cost h t i).sum) S') := ⟨_, rfl⟩
      obtain ⟨M, hM'⟩ : ∃ M : Nat → (Nat × Array Value) → Act → World → Prop, M = (fun i x a' W => ∃ (col' : Nat → Nat) (S' : St) (z : Int) (Bx : Nat), a' = act x Bx ∧ (ListC w0 w col w6.heap.size wr.heap.size lb hb ab tb bb sv least sl names N mb S w.heap.size #[.int .i64 k, .int .i64 n, .string s, .slice p1 it.length c1, .slice p2 j c2, .slice p3 l3 c3] (.int .u64 0) .nilIface z col' S' W ∧ (0 ≤ z ∧ z ≤ 18446744073709551615) ∧ i ≤ it.length ∧ S'.K ≤ S.K + 3 * (re.map (tsz h)).sum + 3 * ((it.drop (it.length - i)).map (tsz h)).sum ∧ LaysBack (Lays names h) S1 y (it.drop (it.length - i)) z S' ∧ ∀ q, pot S' q ≤ pot S q + (if q = 0 then i * 4 else 0) + (re.map fun t => cost h t q).sum + ((it.drop (it.length - i)).map fun t => cost h t q).sum) ∧ W.heap[Bx]? = some (.cells x.2 41 (0, 0)) ∧ col' Bx = 0) := ⟨_, rfl⟩
      have HI := Lib.hid (And.intro hI' (And.intro hX' (And.intro hM' (And.intro hQd (And.intro hz6 (And.intro hzs (And.intro hzw (And.intro hmb (And.intro h0z (And.intro hQ (And.intro g16 (And.intro g1 hg6))))))))))))
      have hI0 : I 0 w6 := by
        rw [hI']
        exact ⟨_, S1, y, hstart, ⟨y0, y1⟩, by omega, by simp; omega, by simpa using LaysBack.nil, fun q => by have := HGV.out q; simp; omega⟩
      have hQ1 : Q wr.heap.size := by rw [hQd]; exact .inl rfl
      have hmb6 : mb < w6.heap.size := by omega
      have hwl6 : w.heap.size ≤ w6.heap.size := by omega
      clear hI' hX' hM' hQd hz6 hstart hzw hmb
      refine wpIn_hands (by omega) (gf := 164) (lb := #[.pointer (some ⟨wr.heap.size, 0, none⟩)]) rfl (enters_of Tryz.func164 (by kernel_rfl) rfl)
        (hands_terms 8 (by omega) wr.heap.size p1 it.length c1 zs (by omega) Q w6 hQ hQ1 hbox ?six) KeepQ.t (KeepQ.b hQ) (Below.refl _ _) (fun _ => rfl) I X M ?ownI ?ownX ?ownM hI0 ?assign ?body ?done ?stop
      case six =>
        intro i hi
        obtain ⟨b, off, cap, e1, e2, e3, e4, _⟩ := hzs i _ (List.getElem?_eq_getElem hi)
        injection e1 with e1
        exact ⟨b, off, e1, by rw [HI.out.2.2.2.1]; exact .inr ⟨e2, e3⟩, (e4.go g1 (hF b e2 e3)).go hg6 (g1.old b e3 |>.trans (hF b e2 e3))⟩
      case ownI =>
        rw [HI.out.1]
        rintro i W W' row ⟨col', S', x, h1, h2⟩ hg hr
        exact ⟨_, S', x, h1.turn h0z hwl6 hg hr, h2⟩
      case ownX =>
        rw [HI.out.2.1]
        rintro _ W W' row ⟨col', S', x, v, op, nn, h1, ⟨g, rfl, hh, h0⟩, h3⟩ hg hr
        obtain ⟨q1, q2⟩ := turn_cell (col' := col') hh hg hr
        exact ⟨_, S', x, _, op, nn, h1.turn h0z hwl6 hg hr, ⟨g, rfl, q1, q2.trans h0⟩, h3⟩
      case ownM =>
        rw [HI.out.2.2.1]
        rintro i x a' _ W W' row ⟨col', S', z, Bx, h1, ⟨h2, h3⟩, h4, h5⟩ hg hr
        obtain ⟨q1, q2⟩ := turn_cell (col' := col') h4 hg hr
        exact ⟨_, S', z, Bx, h1, ⟨h2.turn h0z hwl6 hg hr, h3⟩, q1, q2.trans h5⟩
      case assign =>
        rintro l i x W hx hiw
        obtain ⟨hil, rfl⟩ := downs_get hx
        obtain ⟨b, off, cap, _, _, _, ⟨k0, n0, s0, a0, l0, c0, a1, l1, cc1, a2, l2, cc2, hz, _⟩, _⟩ := hzs (it.length - 1 - i) _ (List.getElem?_eq_getElem (by omega))
        dsimp only
        rw [hz]
        have Hact := Lib.hid hact
        have HZ := Lib.hid hiw
        clear hact hiw hzs hx
        gi_wp2
        obtain ⟨W2, hW2⟩ : ∃ W2, W.alloc (.cells #[.int .i64 k0, .int .i64 n0, .string s0, .slice a0 l0 c0, .slice a1 l1 cc1, .slice a2 l2 cc2] 41) = W2 := ⟨_, rfl⟩
        rw [hW2]
        have hkW : Kp (fun _ => False) W W2 := by rw [← hW2]; exact (Kp.refl _ W).alloc _
        have hnew : W2.heap[W.heap.size]? = some (.cells #[.int .i64 k0, .int .i64 n0, .string s0, .slice a0 l0 c0, .slice a1 l1 cc1, .slice a2 l2 cc2] 41 (0, 0)) := by rw [← hW2]; exact heap_alloc_new W _
        have hiw := HZ.out
        rw [HI.out.1] at hiw
        obtain ⟨col', S', z, h1, h2⟩ := hiw
        have hgW := Go0.same (col := col') hkW
        have hwW := h1.go.kp.size
        rw [HI.out.2.2.1]
        refine ⟨⟨hkW.size, fun k o _ ho _ => (hkW.block k (Array.getElem?_eq_some_iff.1 ho).1 (fun e => e)).trans ho⟩, hkW.mono fun _ _ e => e.elim, _, S', z, W.heap.size, by rw [Hact.out], ⟨⟨(h1.go.trans hgW).cells hwl6, cellcol_from, (h1.at'.same hkW).cells' (fun q hq => (h1.go.trans hgW).no3 q (Nat.le_trans hwl6 hq)) (by omega) hmb6, h1.st, ?_, Nat.lt_of_lt_of_le h1.bk.1 hkW.size, cellcol_0 ((hgW.old _ h1.bk.1).trans h1.bk.2)⟩, h2⟩, hnew, cellcol_0 (recol_new _ (Nat.le_refl _))⟩
        have := h1.bx.go hgW
        exact ⟨this.l, this.t, this.r0, this.r1, this.y, fun q q1 q2 => cellcol_0 (this.col q q1 q2)⟩
      case body =>
        rintro l i x a' W hx hm
        rw [HI.out.2.2.1] at hm
        obtain ⟨col', S', z, Bx, rfl, ⟨h1, ⟨z0, z1⟩, h3, h4, h5, hV⟩, h6, h7⟩ := hm
        obtain ⟨hil, rfl⟩ := downs_get hx
        obtain ⟨ti, hti⟩ : ∃ ti, it[it.length - 1 - i]? = some ti := ⟨_, List.getElem?_eq_getElem (by omega)⟩
        obtain ⟨b, off, cap, hv, hFb, hbl, ⟨k0, n0, s0, a0, l0, c0, a1, l1, cc1, a2, l2, cc2, hz, _⟩, hT⟩ := hzs _ ti hti
        dsimp only at h6
        rw [hz] at h6 hT
        have x0 : W.cell? ⟨Bx, 0, none⟩ = some (.int .i64 k0) := cell_of h6 0
        have x1 : W.cell? ⟨Bx, 1, none⟩ = some (.int .i64 n0) := cell_of h6 1
        have x2 : W.cell? ⟨Bx, 2, none⟩ = some (.string s0) := cell_of h6 2
        have x3 : W.cell? ⟨Bx, 3, none⟩ = some (.slice a0 l0 c0) := cell_of h6 3
        have x4 : W.cell? ⟨Bx, 4, none⟩ = some (.slice a1 l1 cc1) := cell_of h6 4
        have x5 : W.cell? ⟨Bx, 5, none⟩ = some (.slice a2 l2 cc2) := cell_of h6 5
        have hlv : W.cell? ⟨w.heap.size, 0, none⟩ = some (.pointer (some ⟨lb, 0, none⟩)) := cell_of h1.bx.l 0
        have hTl := (hT.low.go h1.go (fun q hq h => hF q hq.1 h) : TermAt (fun q => F q ∧ q < w.heap.size) W h ti _)
        have hdrop : it.drop (it.length - (i + 1)) = ti :: it.drop (it.length - i) := by
          have hl : it.length - 1 - i < it.length := by omega
          rw [show it.length - (i + 1) = it.length - 1 - i by omega, List.drop_eq_getElem_cons hl, show it.length - 1 - i + 1 = it.length - i by omega]
          congr 1
          rw [List.getElem?_eq_getElem hl] at hti
          exact Option.some.inj hti
        have hsum : (it.map (tsz h)).sum = ((it.take (it.length - (i + 1))).map (tsz h)).sum + ((it.drop (it.length - (i + 1))).map (tsz h)).sum := by
          rw [← List.sum_append_nat, ← List.map_append, List.take_append_drop]
        have hsum2 : ((it.drop (it.length - (i + 1))).map (tsz h)).sum = tsz h ti + ((it.drop (it.length - i)).map (tsz h)).sum := by rw [hdrop]; rfl
        have hVd : ∀ q, (it.map fun t => cost h t q).sum = ((it.take (it.length - (i + 1))).map fun t => cost h t q).sum + (cost h ti q + ((it.drop (it.length - i)).map fun t => cost h t q).sum) := fun q => by
          have e1 : (it.map fun t => cost h t q).sum = ((it.take (it.length - (i + 1))).map fun t => cost h t q).sum + ((it.drop (it.length - (i + 1))).map fun t => cost h t q).sum := by
            rw [← List.sum_append_nat, ← List.map_append, List.take_append_drop]
          rw [e1, hdrop]
          rfl
        have HV := Lib.hid (And.intro hV hVd)
        clear hV hVd
        have hcall := hih (fun q => F q ∧ q < w.heap.size) ti W col' _ S' hTl h1.at' (fun q hq _ => (h1.go.old q hq.2).trans (hF q hq.1 hq.2)) (hok ti (List.mem_of_getElem? hti)) (by omega) (by omega)
        have HB := Lib.hid (And.intro hcall (And.intro h1 (And.intro h3 (And.intro h4 (And.intro h5 (And.intro hdrop (And.intro hsum (And.intro hsum2 (tsz_pos hT)))))))))
        rw [hact]
        dsimp only
        rw [hz]
        clear hcall h1 h3 h4 h5 hTl hdrop hsum hsum2 hx hT hti hv hFb hbl h6 h7
        gi_wp2_with (refine ⟨trivial, ?_⟩; gi_at_call 84; refine (CallsIn.inRound l (callsIn_wide.2 HB.out.1)).mono ?_; rintro e w2 ⟨S2, col2, k1, k2, k3, k4, ⟨xx, rfl, k5, k6, k7, kV⟩ | ⟨v, op, nn, rfl, k5, kS⟩⟩ <;> refine Hid.out ?_)
        · refine Lib.hid ?_
          obtain ⟨hcall, h1, h3, h4, h5, hdrop, hsum, hsum2, hpos⟩ := HB.out
          have hb2 := h1.bx.go k4
          have hka : Kp (fun _ => False) w2 (w2.alloc (.cells #[.int .u64 xx, .int .u64 z] 27)) := (Kp.refl _ w2).alloc _
          have hga := Go0.same (col := col2) hka
          have hb3 := hb2.go hga
          have d0 : w2.cell? ⟨w.heap.size, 0, none⟩ = some (.pointer (some ⟨lb, 0, none⟩)) := cell_of hb2.l 0
          have d4 : w2.cell? ⟨w.heap.size + 1 + 1 + 1 + 1, 0, none⟩ = some (.int .u64 z) := cell_of hb2.y 0
          have hcell := heap_alloc_new w2 (.cells #[.int .u64 xx, .int .u64 z] 27)
          have hws : WordsAt (fun q => q = w2.heap.size) (w2.alloc (.cells #[.int .u64 xx, .int .u64 z] 27)) [xx, z] (.slice (some ⟨w2.heap.size, 0, none⟩) 2 2) :=
            ⟨_, 2, rfl, Nat.le_refl _, fun i x hi => ⟨_, 0, rfl, rfl, by
              rw [Nat.zero_add]
              match i, hi with
              | 0, hi => injection hi with hi; subst hi; exact cell_of hcell 0
              | 1, hi => injection hi with hi; subst hi; exact cell_of hcell 1⟩⟩
          have hblock := block_ends (k3.same hka) (by omega) 2 2 (by omega) (by omega) (by omega) (by omega) hws (fun q e => by subst e; exact recol_new _ (Nat.le_refl _)) (by simp) (by
            intro y hy
            simp at hy
            rcases hy with rfl | rfl <;> omega)
          have HKV := Lib.hid kV
          have HK := Lib.hid (And.intro hblock (And.intro (k4.trans hga) (And.intro hb3 (And.intro k1 (And.intro k2 k7)))))
          clear hcall h1 h3 h4 h5 hdrop hsum hsum2 hpos hb2 hka hga hb3 hcell hws hblock k1 k2 k3 k4 k7 kV
          gi_wp2_with (refine ⟨trivial, ?_⟩; gi_at_call 132; refine (CallsIn.inRound l (callsIn_wide.2 HK.out.1)).mono ?_; rintro e w4 ⟨S4, col4, m1, m2, m3, m4, ⟨x4, rfl, m5, m6, m7, mV⟩ | ⟨v, op, nn, rfl, m5, mS⟩⟩ <;> refine Hid.out ?_)
          · refine Lib.hid ?_
            have hb4 := HK.out.2.2.1.go m4
            have e4 : w4.cell? ⟨w.heap.size + 1 + 1 + 1 + 1, 0, none⟩ = some (.int .u64 z) := cell_of hb4.y 0
            have f4 : w4.frozen? ⟨w.heap.size + 1 + 1 + 1 + 1, 0, none⟩ = false := frozen_of hb4.y 0
            have HMV := Lib.hid mV
            have HM := Lib.hid (And.intro hb4 (And.intro m1 (And.intro m2 (And.intro m3 (And.intro m4 m7)))))
            clear hb4 m1 m2 m3 m4 m7 mV d0 d4
            gi_wp2
            obtain ⟨hb4, m1, m2, m3, m4, m7⟩ := HM.out
            obtain ⟨_, ka, hb3, k1, k2, k7⟩ := HK.out
            obtain ⟨_, h1, h3, h4, h5, hdrop, hsum, hsum2, hpos⟩ := HB.out
            have hg4 := ka.trans m4
            have hgo := h1.go.trans hg4
            have hks : Kp (fun q => q = w.heap.size + 1 + 1 + 1 + 1) w4 (w4.setCell ⟨w.heap.size + 1 + 1 + 1 + 1, 0, none⟩ (.int .u64 x4)) := (Kp.refl _ w4).setCell _ _ (.inl rfl)
            have hwz := (Array.getElem?_eq_some_iff.1 h1.bx.y).1
            have hgs := hgo.aside hks (fun q e _ => by omega)
            have hLs := m3.aside hks (fun q e _ => by subst e; exact ⟨hb4.col _ (by omega) (by omega), by omega⟩)
            have hbs := hb4.set (z := x4)
            refine ⟨(h1.cf.keeps hg4.kp (fun q e _ => e)).trans ((KeepsOthers.setCell _ _ _).from _), ?_, ?_⟩
            · refine (hg4.kp.mono fun q _ e hq => ?_).setCell _ _ (.inl fun hq => ?_)
              · rw [HI.out.2.2.2.1] at hq
                have hg1 := h1.go
                rcases hq with rfl | ⟨hq1, hq2⟩
                · exact e h1.bk.2
                · exact e ((hg1.old q hq2).trans (hF q hq1 hq2))
              · rw [HI.out.2.2.2.1] at hq
                rcases hq with hq | ⟨_, hq2⟩
                · have := (Array.getElem?_eq_some_iff.1 HG.out.2.2.2.1.y).1
                  simp only at hq
                  omega
                · simp only at hq2; omega
            · rw [HI.out.1]
              refine ⟨_, S4, x4, ⟨hgs.cells hwl6, cellcol_from, hLs.cells' (fun q hq => hgs.no3 q (Nat.le_trans hwl6 hq)) (by omega) hmb6, (h1.st.trans k1).trans m1, ?_, by simp; exact Nat.lt_of_lt_of_le h1.bk.1 hg4.kp.size, cellcol_0 (recol_0 ((hg4.old _ h1.bk.1).trans h1.bk.2))⟩, ⟨m5, m6⟩, by omega, by rw [hsum2]; omega, ?_, fun q => ?_⟩
              · exact ⟨hbs.l, hbs.t, hbs.r0, hbs.r1, hbs.y, fun q q1 q2 => cellcol_0 (hbs.col q q1 q2)⟩
              · rw [hdrop]
                exact .cons h5 k7 (by simpa using m7)
              · have v1 := HV.out.1 q
                have v2 := HKV.out q
                have v3 := HMV.out q
                have v4 : ((it.drop (it.length - (i + 1))).map fun t => cost h t q).sum = cost h ti q + ((it.drop (it.length - i)).map fun t => cost h t q).sum := by rw [hdrop]; rfl
                rw [v4]
                by_cases e : q = 0
                · subst e
                  rw [show ([xx, z] : List Int).length + 1 = 3 from rfl, cls_3] at v3
                  simp only [if_pos] at v1 v3 ⊢
                  omega
                · simp only [if_neg e] at v1 v3 ⊢
                  omega
          · refine Lib.hid ?_
            have hb4 := HK.out.2.2.1.go m4
            have e4 : w4.cell? ⟨w.heap.size + 1 + 1 + 1 + 1, 0, none⟩ = some (.int .u64 z) := cell_of hb4.y 0
            have f4 : w4.frozen? ⟨w.heap.size + 1 + 1 + 1 + 1, 0, none⟩ = false := frozen_of hb4.y 0
            have e2 : w4.cell? ⟨w.heap.size + 1 + 1, 0, none⟩ = some (.int .u64 0) := cell_of hb4.r0 0
            have f2 : w4.frozen? ⟨w.heap.size + 1 + 1, 0, none⟩ = false := frozen_of hb4.r0 0
            have e3 : w4.cell? ⟨w.heap.size + 1 + 1 + 1, 0, none⟩ = some .nilIface := cell_of hb4.r1 0
            have f3 : w4.frozen? ⟨w.heap.size + 1 + 1 + 1, 0, none⟩ = false := frozen_of hb4.r1 0
            have hk5 := m5
            obtain ⟨g, rfl, _, _⟩ := hk5
            have HMS := Lib.hid mS
            have HM := Lib.hid (And.intro hb4 (And.intro m1 (And.intro m2 (And.intro m3 (And.intro m4 m5)))))
            clear hb4 m1 m2 m3 m4 m5 mS d0 d4
            gi_wp2
            obtain ⟨hb4, m1, m2, m3, m4, m5⟩ := HM.out
            obtain ⟨_, ka, hb3, k1, k2, k7⟩ := HK.out
            obtain ⟨_, h1, h3, h4, h5, hdrop, hsum, hsum2, hpos⟩ := HB.out
            have hg4 := ka.trans m4
            have hgo := h1.go.trans hg4
            have hks : Kp (fun q => q = w.heap.size + 1 + 1 ∨ q = w.heap.size + 1 + 1 + 1 ∨ q = w.heap.size + 1 + 1 + 1 + 1) w4 (((w4.setCell ⟨w.heap.size + 1 + 1 + 1 + 1, 0, none⟩ (.int .u64 0)).setCell ⟨w.heap.size + 1 + 1, 0, none⟩ (.int .u64 0)).setCell ⟨w.heap.size + 1 + 1 + 1, 0, none⟩ (.iface 95 (.pointer (some ⟨g, 0, none⟩)))) :=
              (((Kp.refl _ w4).setCell _ _ (.inl (.inr (.inr rfl)))).setCell _ _ (.inl (.inl rfl))).setCell _ _ (.inl (.inr (.inl rfl)))
            have hgs := hgo.aside hks (fun q e _ => by omega)
            have hLs := m3.aside hks (fun q e _ => ⟨hb4.col _ (by omega) (by omega), by omega⟩)
            have hbs := (hb4.set (z := 0)).setR (.int .u64 0) (.iface 95 (.pointer (some ⟨g, 0, none⟩)))
            obtain ⟨g', hg', hh', h0'⟩ := m5.aside hks (fun q cs f e => hb4.notFault q cs f e)
            refine ⟨(h1.cf.keeps hg4.kp (fun q e _ => e)).trans (((KeepsOthers.setCell _ _ _).from _).trans (((KeepsOthers.setCell _ _ _).from _).trans ((KeepsOthers.setCell _ _ _).from _))), ?_⟩
            rw [HI.out.2.1]
            refine ⟨_, S4, 0, _, op, nn, ⟨hgs.cells hwl6, cellcol_from, hLs.cells' (fun q hq => hgs.no3 q (Nat.le_trans hwl6 hq)) (by omega) hmb6, (h1.st.trans k1).trans m1, ?_, by simp; exact Nat.lt_of_lt_of_le h1.bk.1 hg4.kp.size, cellcol_0 (recol_0 ((hg4.old _ h1.bk.1).trans h1.bk.2))⟩, ⟨g', hg', hh', cellcol_0 h0'⟩, by omega, HMS.out.le fun q => ?_⟩
            · exact ⟨hbs.l, hbs.t, hbs.r0, hbs.r1, hbs.y, fun q q1 q2 => cellcol_0 (recol_0 (hb4.col q q1 q2))⟩
            · have v1 := HV.out.1 q
              have v2 := HKV.out q
              rw [HV.out.2 q]
              unfold ownCost
              by_cases e : q = 0
              · subst e
                rw [show ([xx, z] : List Int).length + 1 = 3 from rfl, cls_3]
                simp only [if_pos] at v1 ⊢
                simp only [show ¬ ((7 : Int) = 5) by omega, if_false]
                omega
              · simp only [if_neg e] at v1 ⊢
                omega
        · refine Lib.hid ?_
          obtain ⟨hcall, h1, h3, h4, h5, hdrop, hsum, hsum2, hpos⟩ := HB.out
          have hb4 := h1.bx.go k4
          have e2 : w2.cell? ⟨w.heap.size + 1 + 1, 0, none⟩ = some (.int .u64 0) := cell_of hb4.r0 0
          have f2 : w2.frozen? ⟨w.heap.size + 1 + 1, 0, none⟩ = false := frozen_of hb4.r0 0
          have e3 : w2.cell? ⟨w.heap.size + 1 + 1 + 1, 0, none⟩ = some .nilIface := cell_of hb4.r1 0
          have f3 : w2.frozen? ⟨w.heap.size + 1 + 1 + 1, 0, none⟩ = false := frozen_of hb4.r1 0
          have hk5 := k5
          obtain ⟨g, rfl, _, _⟩ := hk5
          have HMS := Lib.hid kS
          have HM := Lib.hid (And.intro hb4 (And.intro k1 (And.intro k2 (And.intro k3 (And.intro k4 k5)))))
          clear hb4 k1 k2 k3 k4 k5 kS hcall h1 h3 h4 h5 hdrop hsum hsum2 hpos
          gi_wp2
          obtain ⟨hb4, m1, m2, m3, m4, m5⟩ := HM.out
          obtain ⟨_, h1, h3, h4, h5, hdrop, hsum, hsum2, hpos⟩ := HB.out
          have hgo := h1.go.trans m4
          have hks : Kp (fun q => q = w.heap.size + 1 + 1 ∨ q = w.heap.size + 1 + 1 + 1 ∨ q = w.heap.size + 1 + 1 + 1 + 1) w2 ((w2.setCell ⟨w.heap.size + 1 + 1, 0, none⟩ (.int .u64 0)).setCell ⟨w.heap.size + 1 + 1 + 1, 0, none⟩ (.iface 95 (.pointer (some ⟨g, 0, none⟩)))) :=
            ((Kp.refl _ w2).setCell _ _ (.inl (.inl rfl))).setCell _ _ (.inl (.inr (.inl rfl)))
          have hgs := hgo.aside hks (fun q e _ => by omega)
          have hLs := m3.aside hks (fun q e _ => ⟨hb4.col _ (by omega) (by omega), by omega⟩)
          have hbs := hb4.setR (.int .u64 0) (.iface 95 (.pointer (some ⟨g, 0, none⟩)))
          obtain ⟨g', hg', hh', h0'⟩ := m5.aside hks (fun q cs f e => hb4.notFault q cs f e)
          refine ⟨(h1.cf.keeps m4.kp (fun q e _ => e)).trans (((KeepsOthers.setCell _ _ _).from _).trans ((KeepsOthers.setCell _ _ _).from _)), ?_⟩
          rw [HI.out.2.1]
          refine ⟨_, S2, z, _, op, nn, ⟨hgs.cells hwl6, cellcol_from, hLs.cells' (fun q hq => hgs.no3 q (Nat.le_trans hwl6 hq)) (by omega) hmb6, h1.st.trans m1, ?_, by simp; exact Nat.lt_of_lt_of_le h1.bk.1 m4.kp.size, cellcol_0 (recol_0 ((m4.old _ h1.bk.1).trans h1.bk.2))⟩, ⟨g', hg', hh', cellcol_0 h0'⟩, by omega, HMS.out.le fun q => ?_⟩
          · exact ⟨hbs.l, hbs.t, hbs.r0, hbs.r1, hbs.y, fun q q1 q2 => cellcol_0 (hbs.col q q1 q2)⟩
          · have v1 := HV.out.1 q
            rw [HV.out.2 q]
            unfold ownCost
            by_cases e : q = 0
            · subst e
              simp only [if_pos] at v1 ⊢
              simp only [show ¬ ((7 : Int) = 5) by omega, if_false]
              omega
            · simp only [if_neg e] at v1 ⊢
              omega
      case done =>
        rintro D W hD hi hKD
        rw [HI.out.1, downs_length] at hi
        obtain ⟨col', S', x, h1, ⟨x0, x1⟩, _, h4, h5, hV⟩ := hi
        rw [Nat.sub_self, List.drop_zero] at h4 h5
        have HV := Lib.hid hV
        clear hV
        have e4 : W.cell? ⟨w.heap.size + 1 + 1 + 1 + 1, 0, none⟩ = some (.int .u64 x) := cell_of h1.bx.y 0
        have e2 : W.cell? ⟨w.heap.size + 1 + 1, 0, none⟩ = some (.int .u64 0) := cell_of h1.bx.r0 0
        have f2 : W.frozen? ⟨w.heap.size + 1 + 1, 0, none⟩ = false := frozen_of h1.bx.r0 0
        have e3 : W.cell? ⟨w.heap.size + 1 + 1 + 1, 0, none⟩ = some .nilIface := cell_of h1.bx.r1 0
        have f3 : W.frozen? ⟨w.heap.size + 1 + 1 + 1, 0, none⟩ = false := frozen_of h1.bx.r1 0
        have HD := Lib.hid (And.intro h1 (And.intro h4 (And.intro h5 hKD)))
        clear h1 h4 h5
        gi_wp2
        obtain ⟨h1, h4, h5, hKD⟩ := HD.out
        have hb := h1.bx.setR (.int .u64 x) .nilIface
        obtain ⟨W2, hW2⟩ : ∃ W2, ((W.setCell ⟨w.heap.size + 1 + 1, 0, none⟩ (.int .u64 x)).setCell ⟨w.heap.size + 1 + 1 + 1, 0, none⟩ .nilIface) = W2 := ⟨_, rfl⟩
        have hK2 : W2.heap[D]? = some (.deferred (some [])) := by
          rw [← hW2]
          exact (KeepsOthers.setCell _ _ _).same D _ ((KeepsOthers.setCell _ _ _).same D _ hKD rfl) rfl
        have hks : Kp (fun q => q = w.heap.size + 1 + 1 ∨ q = w.heap.size + 1 + 1 + 1 ∨ q = D) W (W2.putObj D (.deferred none)) := by
          rw [← hW2]
          exact (((Kp.refl _ W).setCell _ _ (.inl (.inl rfl))).setCell _ _ (.inl (.inr (.inl rfl)))).grown (grownBy_putObj' _ D _) (fun k e => by cases e; exact .inl (.inr (.inr rfl)))
        rw [hW2] at hb ⊢
        have hbt := hb.turn (Bw := D) (row := some D) (grownBy_putObj' W2 D (.deferred none)) (fun r e => by cases e; exact ⟨Nat.le_refl _, _, hK2, rfl⟩)
        have hD0 : col' D = 0 := by
          rcases Nat.eq_zero_or_pos (col' D) with e | e
          · exact e
          · have := h1.cf D hD (by omega)
            rw [hKD] at this
            simp [Obj.isCells] at this
        have hwz := (Array.getElem?_eq_some_iff.1 h1.bx.y).1
        have hG : ∀ q, (q = w.heap.size + 1 + 1 ∨ q = w.heap.size + 1 + 1 + 1 ∨ q = D) → q < W.heap.size → col' q = 0 ∧ w.heap.size ≤ q := fun q e _ => by
          rcases e with rfl | rfl | rfl
          · exact ⟨h1.bx.col _ (by omega) (by omega), by omega⟩
          · exact ⟨h1.bx.col _ (by omega) (by omega), by omega⟩
          · exact ⟨hD0, by omega⟩
        refine ⟨by simp, .inl ⟨_, _, rfl, run_takeDeferred hK2, ?_⟩⟩
        have y0 := cell_of hbt.r0 0
        have y1 := cell_of hbt.r1 0
        refine ⟨.tuple #[.int .u64 x, .nilIface], by simp [results, Tryz.results129, go_sem, y0, y1], S', recol col' W 0, h1.st, ?_, h1.at'.aside hks (fun q e hq => ⟨(hG q e hq).1, Nat.le_trans h0z (hG q e hq).2⟩), h1.go.aside hks (fun q e hq => (hG q e hq).2), .inl ⟨x, rfl, x0, x1, ⟨y, S1, HG.out.2.2.2.2.2, h5⟩, fun q => ?_⟩⟩
        · omega
        · have v1 := HV.out q
          rw [Nat.sub_self, List.drop_zero] at v1
          unfold ownCost
          by_cases e : q = 0
          · subst e
            simp only [if_pos] at v1 ⊢
            simp only [show ¬ ((7 : Int) = 5) by omega, if_false]
            omega
          · simp only [if_neg e] at v1 ⊢
            omega
      case stop =>
        rintro D W hD hi hKD
        rw [HI.out.2.1] at hi
        obtain ⟨col', S', x, v, op, nn, h1, h2, h3, hS⟩ := hi
        have HD := Lib.hid (And.intro h1 (And.intro h2 (And.intro h3 hS)))
        clear h1 h2 h3 hS
        gi_wp2
        obtain ⟨h1, h2, h3, hS⟩ := HD.out
        have hbt := h1.bx.turn (Bw := D) (row := some D) (grownBy_putObj' W D (.deferred none)) (fun r e => by cases e; exact ⟨Nat.le_refl _, _, hKD, rfl⟩)
        have hD0 : col' D = 0 := by
          rcases Nat.eq_zero_or_pos (col' D) with e | e
          · exact e
          · have := h1.cf D hD (by omega)
            rw [hKD] at this
            simp [Obj.isCells] at this
        refine ⟨by simp, .inl ⟨_, _, rfl, run_takeDeferred hKD, ?_⟩⟩
        have y0 := cell_of hbt.r0 0
        have y1 := cell_of hbt.r1 0
        refine ⟨.tuple #[.int .u64 0, v], by simp [results, Tryz.results129, go_sem, y0, y1], LEnds.bad (G := fun q => q = D) h1.st h3 hS h1.at' h1.go h2 ((Kp.refl _ W).grown (grownBy_putObj' _ D _) (fun k e => by cases e; exact .inl rfl)) h0z (fun q e _ => by subst e; exact ⟨hD0, by omega⟩) (fun q cs f e hh => by subst e; rw [hKD] at hh; cases hh)⟩
end
end Go.Proofs.YtkcmfldcdokobaaGreatDoor
