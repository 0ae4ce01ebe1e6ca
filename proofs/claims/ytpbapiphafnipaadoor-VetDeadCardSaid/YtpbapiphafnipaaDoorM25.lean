/- What is wrong with any module. Module and Tries of any module. A module that is right stays so with an instruction more that is never reached. (Plain data.) -/
import Derived.Test.YtpbapiphafnipaaDoorM09
import Derived.Test.YtpbapiphafnipaaDoorM15
import Derived.Test.YtpbapiphafnipaaDoorM21
import Derived.Test.YtpbapiphafnipaaDoorM24
/- What is wrong with any module. -/
namespace Go.Proofs.YtpbapiphafnipaaDoor
open Go.RowKit

/-- a module that is right (hh: above its terms' heights) -/
structure RightM (tab : Nat → Int) (hh : Nat) (nm : ByteArray) (lits : List Tm) (fns : List Fn4) : Prop where
  rnm : nm.size ≤ 255
  rfew : lits.length ≤ 65536
  rone : 1 ≤ fns.length
  rmost : fns.length ≤ 256
  rlit : ∀ t ∈ lits, tok 200 t ∧ tsz hh t ≤ 65536
  rfn : ∀ (i : Nat) (f : Fn4), fns[i]? = some f → FunGoodA tab lits.length fns i f
/-- what whole tells of any module -/
def WholeA (tab : Nat → Int) (hh : Nat) (nm : ByteArray) (lits : List Tm) (fns : List Fn4) (w : World) (e : Ending) (w' : World) : Prop :=
  (e = .returned .nilIface ∧ Kp (fun _ => False) w w' ∧ RightM tab hh nm lits fns) ∨ ((∃ (a : Lk) (l : List Lk), EBad w id (a :: l) e w') ∧ ¬ RightM tab hh nm lits fns)
theorem function_allA {tab : Nat → Int} {F : Nat → Prop} {w : World} {nm : ByteArray} {fns : List Fn4} {pf : Option Addr} {n cf : Nat} (h : FnsAt F w fns (.slice pf n cf)) (hF : ∀ q, F q → q < w.heap.size)
    {pl : Option Addr} {nl cl : Nat} (hnl : nl ≤ 100000) (hnf : fns.length ≤ 100000) (i : Nat) (f : Fn4) (hf : fns[i]? = some f) (hFl : LaidF tab w) :
    Calls Tryd.prog 37 #[.agg #[.string nm, .slice pl nl cl, .slice pf n cf], .int .i64 i] w (FunPostA tab nl fns i f w) := by
  rcases hh : vhead fns i f with _ | _
  · exact (function_head h hF rfl i f hf hh).mono fun e w' h => ⟨.inr (.inl ⟨h.1, hh⟩), h.2⟩
  · exact functionA h hF rfl hnl hnf i f hf hFl hh
theorem ebad_kind (k : Int) (hk : k ≠ 0) {w w' : World} (h : Kp (fun _ => False) w w') : ∃ (a : Lk) (l : List Lk), EBad w id (a :: l) (.returned (.iface 42 (.int .i64 k))) w' :=
  ⟨Lk.kind k, [], _, rfl, .inl ⟨rfl, rfl, rfl, rfl, hk⟩, h⟩
set_option maxRecDepth 100000 in
set_option maxHeartbeats 4000000 in
theorem wholeA {tab : Nat → Int} {F : Nat → Prop} {w : World} {hh : Nat} {nm : ByteArray} {lits : List Tm} {pl : Option Addr} {nl cl : Nat} {fns : List Fn4} {pf : Option Addr} {nf cf : Nat} (hL : ListAt F w (TermAt F w hh) lits (.slice pl nl cl)) (h : FnsAt F w fns (.slice pf nf cf))
    (hF : ∀ q, F q → q < w.heap.size) (hFl : LaidF tab w) (hg : Laid0 w) :
    Calls Tryd.prog 22 #[.agg #[.string nm, .slice pl nl cl, .slice pf nf cf]] w (WholeA tab hh nm lits fns w) := by
  have hS := Lib.hid (And.intro hL h)
  obtain ⟨pl', cl', e, l1, l2, l3⟩ := hL
  simp only [Value.slice.injEq] at e
  obtain ⟨rfl, rfl, rfl⟩ := e
  obtain ⟨pf', cf', e, f1, f2, f3⟩ := h
  simp only [Value.slice.injEq] at e
  obtain ⟨rfl, rfl, rfl⟩ := e
  obtain ⟨w1, hw1⟩ : ∃ w1, w.alloc (.cells #[.string nm, .slice pl lits.length cl, .slice pf fns.length cf] 26) = w1 := ⟨_, rfl⟩
  have hk1 : Kp (fun _ => False) w w1 := by rw [← hw1]; exact (Kp.refl _ w).alloc _
  have hb : w1.heap[w.heap.size]? = some (.cells #[.string nm, .slice pl lits.length cl, .slice pf fns.length cf] 26 (0, 0)) := by rw [← hw1]; exact heap_alloc_new w _
  have y0 : w1.cell? ⟨w.heap.size, 0, none⟩ = some (.string nm) := by rw [cell_of_row w1 _ 0 _ _ _ hb]; rfl
  have y1 : w1.cell? ⟨w.heap.size, 1, none⟩ = some (.slice pl lits.length cl) := by rw [cell_of_row w1 _ 1 _ _ _ hb]; rfl
  have y2 : w1.cell? ⟨w.heap.size, 2, none⟩ = some (.slice pf fns.length cf) := by rw [cell_of_row w1 _ 2 _ _ _ hb]; rfl
  have H := Lib.hid (And.intro hF (And.intro hFl (And.intro trivial (And.intro hg (And.intro hk1 (And.intro hb (And.intro l3 f3)))))))
  clear l1 l2 l3 f1 f2 f3 hF hFl hg hk1 hb
  by_cases hn1 : (255 : Int) < nm.size
  · go_enter Tryd.func22, Tryd.ntmps22
    go_wp2_with fail
    go_ret
    exact .inr ⟨ebad_kind 11 (by decide) H.out.2.2.2.2.1, fun hr => by have := hr.rnm; omega⟩
  by_cases hn2 : (65536 : Int) < lits.length
  · go_enter Tryd.func22, Tryd.ntmps22
    go_wp2_with fail
    go_ret
    exact .inr ⟨ebad_kind 11 (by decide) H.out.2.2.2.2.1, fun hr => by have := hr.rfew; omega⟩
  rcases hwi : wi (fns.length : Int) 1 256 with _ | _
  · have HI := Lib.hid hwi
    clear hwi
    go_enter Tryd.func22, Tryd.ntmps22
    go_wp2_with fail
    refine (vin_any _ _ _ _).mono ?_
    rintro e w2 ⟨rfl, rfl⟩
    rw [HI.out]
    go_wp2_with fail
    go_ret
    exact .inr ⟨ebad_kind 11 (by decide) H.out.2.2.2.2.1, fun hr => by
      have := wi_true.2 (show (1 : Int) ≤ fns.length ∧ (fns.length : Int) ≤ 256 from ⟨by have := hr.rone; omega, by have := hr.rmost; omega⟩)
      rw [HI.out] at this
      cases this⟩
  have hfw := wi_true.1 hwi
  have hf1 : 1 ≤ fns.length := by omega
  have hf2 : fns.length ≤ 256 := by omega
  have hl1 : lits.length ≤ 65536 := by omega
  have hnm : nm.size ≤ 255 := by omega
  clear hfw
  have HWI := Lib.hid hwi
  clear hwi
  go_enter Tryd.func22, Tryd.ntmps22
  go_wp2_with fail
  refine (vin_any _ _ _ _).mono ?_
  rintro e w2 ⟨rfl, rfl⟩
  rw [HWI.out]
  go_wp2_with fail
  go_loopg [29] lits.length (fun gk jj wr => ∃ j : Nat, j ≤ lits.length ∧ gk = lits.length - j ∧ jj = .int .i64 j ∧ (∀ (i : Nat) (t : Tm), i < j → lits[i]? = some t → tok 200 t ∧ tsz hh t ≤ 65536) ∧ Kp (fun _ => False) w1 wr)
  case atStart => exact ⟨0, by omega, rfl, rfl, fun i t hi => by omega, Kp.refl _ _⟩
  case round =>
    obtain ⟨j, hj, hgk, rfl, hlo, hk⟩ := hrel
    by_cases hlt : j < lits.length
    · obtain ⟨t, hjt⟩ : ∃ t, lits[j]? = some t := ⟨lits[j], List.getElem?_eq_getElem hlt⟩
      obtain ⟨b, off, c0, c1, c2, c3, c4, c5, rfl, hb, a0, a1, a2, a3, a4, a5, hT⟩ := H.out.2.2.2.2.2.2.1 j t hjt
      obtain ⟨k, n, s, a, l, c, pa2, pl2, pd, pa3, pl3, pe, hc⟩ := hT.form
      simp only [List.cons.injEq, and_true] at hc
      obtain ⟨rfl, rfl, rfl, rfl, rfl, rfl⟩ := hc
      have hkw := H.out.2.2.2.2.1.trans' hk
      have x0 := keeps_cell hkw a0
      have x1 := keeps_cell hkw a1
      have x2 := keeps_cell hkw a2
      have x3 := keeps_cell hkw a3
      have x4 := keeps_cell hkw a4
      have x5 := keeps_cell hkw a5
      have hli : (j : Int) < lits.length := by omega
      obtain ⟨wq, hwq⟩ : ∃ wq, wr.alloc (.cells #[.int .i64 k, .int .i64 n, .string s, .slice a l c, .slice pa2 pl2 pd, .slice pa3 pl3 pe] 35) = wq := ⟨_, rfl⟩
      have hkq : Kp (fun _ => False) wr wq := by rw [← hwq]; exact (Kp.refl _ wr).alloc _
      have hbq : wq.heap[wr.heap.size]? = some (.cells #[.int .i64 k, .int .i64 n, .string s, .slice a l c, .slice pa2 pl2 pd, .slice pa3 pl3 pe] 35 (0, 0)) := by rw [← hwq]; exact heap_alloc_new wr _
      have z0 : wq.cell? ⟨wr.heap.size, 0, none⟩ = some (.int .i64 k) := by rw [cell_of_row wq _ 0 _ _ _ hbq]; rfl
      have z1 : wq.cell? ⟨wr.heap.size, 1, none⟩ = some (.int .i64 n) := by rw [cell_of_row wq _ 1 _ _ _ hbq]; rfl
      have z2 : wq.cell? ⟨wr.heap.size, 2, none⟩ = some (.string s) := by rw [cell_of_row wq _ 2 _ _ _ hbq]; rfl
      have z3 : wq.cell? ⟨wr.heap.size, 3, none⟩ = some (.slice a l c) := by rw [cell_of_row wq _ 3 _ _ _ hbq]; rfl
      have z4 : wq.cell? ⟨wr.heap.size, 4, none⟩ = some (.slice pa2 pl2 pd) := by rw [cell_of_row wq _ 4 _ _ _ hbq]; rfl
      have z5 : wq.cell? ⟨wr.heap.size, 5, none⟩ = some (.slice pa3 pl3 pe) := by rw [cell_of_row wq _ 5 _ _ _ hbq]; rfl
      have hTq := TermAt.imp (fun _ e => e) (fun b j u _ e => keeps_cell (hkw.trans' hkq) e) _ _ _ hT
      have H6 := Lib.hid (And.intro (hk.trans' hkq) (And.intro hTq (And.intro hlo hjt)))
      clear hk hkw hkq hbq hT hTq a0 a1 a2 a3 a4 a5 hjt hlo
      go_wp2_with fail
      refine (tright_deep H6.out.2.1).mono ?_
      rintro e w3 ⟨⟨rfl, hyes⟩ | ⟨⟨v3, n3, k3, rfl, hch3⟩, hno⟩, hk3⟩
      rotate_left
      · have hz3 : wq.heap.size ≤ w3.heap.size := hk3.size
        have hkw3 := H.out.2.2.2.2.1.trans' (H6.out.1.trans' hk3)
        obtain ⟨tt, xx, rfl⟩ : ∃ t x, v3 = .iface t x := by
          rcases id hch3 with h | ⟨h0, g, inner, hg, h1, h2, h3⟩
          · exact ⟨_, _, h.2.1⟩
          · exact ⟨_, _, h1⟩
        have HA := Lib.hid (at_chain ⟨#[108, 105, 116, 101, 114, 97, 108]⟩ j hch3 hz3)
        have H7 := Lib.hid (And.intro hkw3 (And.intro hno (H.out.2.2.2.2.1.trans' H6.out.1)))
        clear hk3 hch3 hz3 hkw3 hno
        go_wp2_with fail
        refine HA.out.mono ?_
        rintro e w4 ⟨v4, rfl, hch4, hk4⟩
        have H8 := Lib.hid (And.intro (hch4.le H7.out.2.2.size) (H7.out.1.trans' hk4))
        clear hch4 hk4
        go_wp2_with fail
        go_ret
        exact .inr ⟨⟨_, _, _, rfl, H8.out.1, H8.out.2⟩, fun hr => H7.out.2.1 (hr.rlit _ (List.mem_of_getElem? H6.out.2.2.2))⟩
      have H7 := Lib.hid (And.intro (H6.out.1.trans' hk3) hyes)
      clear hk3 hyes
      go_wp2_with fail
      go_roundg (lits.length - (j + 1))
      case measure => omega
      case rel => exact ⟨j + 1, by omega, rfl, by go_num, fun i t hi ht => by
        rcases Nat.lt_or_ge i j with h1 | h1
        · exact H6.out.2.2.1 i t h1 ht
        · obtain rfl : i = j := by omega
          obtain rfl := Option.some.inj (H6.out.2.2.2.symm.trans ht)
          exact H7.out.2, H7.out.1⟩
    · have hlt' : ¬ (j : Int) < lits.length := by omega
      have hlall : ∀ t ∈ lits, tok 200 t ∧ tsz hh t ≤ 65536 := fun t ht => by
        obtain ⟨i, hi, e⟩ := List.getElem_of_mem ht
        exact hlo i t (by omega) (by rw [List.getElem?_eq_getElem hi, e])
      have HLA := Lib.hid hlall
      clear hlall hlo
      have H6 := Lib.hid (H.out.2.2.2.2.1.trans' hk)
      have hb6 := (hk.block _ (Array.getElem?_eq_some_iff.1 H.out.2.2.2.2.2.1).1 (fun e => e)).trans H.out.2.2.2.2.2.1
      clear y0 y1 y2
      have y2 : wr.cell? ⟨w.heap.size, 2, none⟩ = some (.slice pf fns.length cf) := by rw [cell_of_row wr _ 2 _ _ _ hb6]; rfl
      have H8 := Lib.hid hb6
      clear hb6 hk
      go_wp2_with fail
      go_loopg [45] fns.length (fun gk jj wx => ∃ j : Nat, j ≤ fns.length ∧ gk = fns.length - j ∧ jj = .int .i64 j ∧ (∀ (i : Nat) (f : Fn4), i < j → fns[i]? = some f → FunGoodA tab lits.length fns i f) ∧ Kp (fun _ => False) wr wx)
      case atStart => exact ⟨0, by omega, rfl, rfl, fun i f hi => by omega, Kp.refl _ _⟩
      case round =>
        obtain ⟨i, hi, hgk2, rfl, hgo, hkx⟩ := hrel
        by_cases hlf : i < fns.length
        · obtain ⟨f, hif⟩ : ∃ f, fns[i]? = some f := ⟨fns[i], List.getElem?_eq_getElem hlf⟩
          have hii : (i : Int) < fns.length := by omega
          have hb7 := (hkx.block _ (Array.getElem?_eq_some_iff.1 H8.out).1 (fun e => e)).trans H8.out
          clear y2
          have q0 := (cell_of_row _ _ 0 _ _ _ hb7).trans rfl
          have q1 := (cell_of_row _ _ 1 _ _ _ hb7).trans rfl
          have q2 := (cell_of_row _ _ 2 _ _ _ hb7).trans rfl
          simp only [List.getElem?_toArray, List.getElem?_cons_succ, List.getElem?_cons_zero] at q0 q1 q2
          have hkw := H6.out.trans' hkx
          have HF := Lib.hid (function_allA (tab := tab) (nm := nm) (pl := pl) (nl := lits.length) (cl := cl) (hS.out.2.imp (fun _ e => e) (fun b j u _ e => keeps_cell hkw e)) (fun q e => by have := H.out.1 q e; have := hkw.size; omega) (by omega) (by omega) i f hif (H.out.2.1.kp hkw))
          have H9 := Lib.hid (And.intro hkw (And.intro hgo (And.intro hkx hif)))
          clear hkx hb7 hgo hkw
          go_wp2_with fail
          refine HF.out.mono ?_
          rintro e w5 ⟨hp, hk5⟩
          have hk05 := H9.out.1.trans' hk5
          have hg5 : Laid0 w5 := laid0_kp H.out.2.2.2.1 hk05
          rcases hp with ⟨rfl, hgood⟩ | ⟨rfl, hhd⟩ | ⟨p, k, rfl, hk0, hsl⟩
          · have H10 := Lib.hid (And.intro hgood (H9.out.2.2.1.trans' hk5))
            clear hk5 hk05 hg5 hgood
            go_wp2_with fail
            go_roundg (fns.length - (i + 1))
            case measure => omega
            case rel => exact ⟨i + 1, by omega, rfl, by go_num, fun i' f' hi' hf' => by
              rcases Nat.lt_or_ge i' i with h1 | h1
              · exact H9.out.2.1 i' f' h1 hf'
              · obtain rfl : i' = i := by omega
                obtain rfl := Option.some.inj (H9.out.2.2.2.symm.trans hf')
                exact H10.out.1, H10.out.2⟩
          · have H10 := Lib.hid (And.intro hk05 hhd)
            have HP := Lib.hid (placed_kind 11 w5 hg5)
            clear hk5 hk05 hg5 hhd
            go_wp2_with fail
            refine HP.out.mono ?_
            rintro e w6 ⟨rfl, hk6⟩
            have hz : w.heap.size ≤ w6.heap.size := (H10.out.1.trans' hk6).size
            go_wp2_with fail
            refine (at_chain fnS i (a := Lk.kind 11) (l := []) (B := w.heap.size) (.inl ⟨rfl, rfl, rfl, rfl, by decide⟩) hz).mono ?_
            rintro e w7 ⟨v7, rfl, hch, hk7⟩
            have H11 := Lib.hid (And.intro hch (H10.out.1.trans' (hk6.trans' hk7)))
            clear hk6 hk7 hch
            go_wp2_with fail
            go_ret
            exact .inr ⟨⟨_, _, _, rfl, H11.out.1, H11.out.2⟩, fun hr => by have := (hr.rfn i f H9.out.2.2.2).head; rw [H10.out.2] at this; cases this⟩
          · have H10 := Lib.hid (And.intro hk05 hsl)
            have HP := Lib.hid (placed_slip p k hk0 w5 hg5)
            clear hk5 hk05 hg5 hsl
            go_wp2_with fail
            refine HP.out.mono ?_
            rintro e w6 ⟨v6, rfl, hch6, hk6⟩
            have hz : w5.heap.size ≤ w6.heap.size := hk6.size
            simp only [id]
            go_wp2_with fail
            refine (at_chain fnS i hch6 hz).mono ?_
            rintro e w7 ⟨v7, rfl, hch, hk7⟩
            have H11 := Lib.hid (And.intro (hch.le H10.out.1.size) (H10.out.1.trans' (hk6.trans' hk7)))
            clear hk6 hk7 hch hch6
            go_wp2_with fail
            go_ret
            exact .inr ⟨⟨_, _, _, rfl, H11.out.1, H11.out.2⟩, fun hr => slipA_not H10.out.2 (hr.rfn i f H9.out.2.2.2)⟩
        · have hlf' : ¬ (i : Int) < fns.length := by omega
          have hall : ∀ (i : Nat) (f : Fn4), fns[i]? = some f → FunGoodA tab lits.length fns i f := fun i f hf => hgo i f (by have := (List.getElem?_eq_some_iff.1 hf).1; omega) hf
          have H9 := Lib.hid (And.intro (H6.out.trans' hkx) hall)
          clear hkx hall hgo
          go_wp2_with fail
          go_ret
          exact .inl ⟨rfl, H9.out.1, ⟨by omega, by omega, by omega, by omega, HLA.out, H9.out.2⟩⟩
end Go.Proofs.YtpbapiphafnipaaDoor

/- Module and Tries of any module. -/
namespace Go.Proofs.YtpbapiphafnipaaDoor
open Go.RowKit

/-- a module's parts in memory -/
structure MdIn (w : World) (hh : Nat) (m : Md) (pl : Option Addr) (cl : Nat) (pf : Option Addr) (cf : Nat) : Prop where
  lits : ListAt (fun q => q < w.heap.size) w (TermAt (fun q => q < w.heap.size) w hh) m.lits (.slice pl m.lits.length cl)
  fns : FnsAt (fun q => q < w.heap.size) w m.funcs (.slice pf m.funcs.length cf)
theorem MdIn.kp {w w' : World} {hh : Nat} {m : Md} {pl : Option Addr} {cl : Nat} {pf : Option Addr} {cf : Nat} (h : MdIn w hh m pl cl pf cf) (hk : Kp (fun _ => False) w w') : MdIn w' hh m pl cl pf cf := by
  have hz := hk.size
  exact ⟨h.lits.imp (fun q e => Nat.lt_of_lt_of_le e hz) (fun b j u _ e => keeps_cell hk e) (fun t cs e => TermAt.imp (fun q e => Nat.lt_of_lt_of_le e hz) (fun b j u _ e => keeps_cell hk e) _ t cs e), h.fns.imp (fun q e => Nat.lt_of_lt_of_le e hz) (fun b j u _ e => keeps_cell hk e)⟩
theorem mdIn_of {F : Nat → Prop} {w : World} {hh : Nat} {m : Md} {cs : List Value} (h : MdAt F w hh m cs) (hF : ∀ q, F q → q < w.heap.size) : ∃ pl cl pf cf, cs = [.string m.name, .slice pl m.lits.length cl, .slice pf m.funcs.length cf] ∧ MdIn w hh m pl cl pf cf := by
  obtain ⟨vl, vf, rfl, -, hl, hf⟩ := h
  have hl2 := hl
  have hf2 := hf
  obtain ⟨pl, cl, rfl, -⟩ := hl2
  obtain ⟨pf, cf, rfl, -⟩ := hf2
  exact ⟨pl, cl, pf, cf, rfl, hl.imp hF (fun b j u _ e => e) (fun t cs e => TermAt.imp hF (fun b j u _ e => e) _ t cs e), hf.imp hF (fun b j u _ e => e)⟩
theorem whole_mdA {tab : Nat → Int} {w : World} {hh : Nat} {m : Md} {pl : Option Addr} {cl : Nat} {pf : Option Addr} {cf : Nat} (h : MdIn w hh m pl cl pf cf) (hg : Laid0 w) (hFl : LaidF tab w) (w1 : World) (hk : Kp (fun _ => False) w w1) :
    Calls Tryd.prog 22 #[.agg #[.string m.name, .slice pl m.lits.length cl, .slice pf m.funcs.length cf]] w1 (WholeA tab hh m.name m.lits m.funcs w1) :=
  wholeA (h.kp hk).lits (h.kp hk).fns (fun _ e => e) (hFl.kp hk) (laid0_kp hg hk)
theorem moduleA_ok {tab : Nat → Int} {w : World} {hh : Nat} {m : Md} {pl : Option Addr} {cl : Nat} {pf : Option Addr} {cf : Nat} (h : MdIn w hh m pl cl pf cf) (hg : Laid0 w) (hFl : LaidF tab w) (hr : RightM tab hh m.name m.lits m.funcs) :
    Calls Tryd.prog 11 #[.agg #[.string m.name, .slice pl m.lits.length cl, .slice pf m.funcs.length cf]] w fun e w' => e = .returned .nilIface ∧ Kp (fun _ => False) w w' :=
  module_ok fun w1 hk => (whole_mdA h hg hFl w1 hk).mono fun _ _ hp => hp.elim (fun a => ⟨a.1, a.2.1⟩) (fun a => (a.2 hr).elim)
theorem moduleA_bad {tab : Nat → Int} {w : World} {hh : Nat} {m : Md} {pl : Option Addr} {cl : Nat} {pf : Option Addr} {cf : Nat} (h : MdIn w hh m pl cl pf cf) (hg : Laid0 w) (hFl : LaidF tab w) (hr : ¬ RightM tab hh m.name m.lits m.funcs) :
    Calls Tryd.prog 11 #[.agg #[.string m.name, .slice pl m.lits.length cl, .slice pf m.funcs.length cf]] w fun e w' => ∃ (t : TypeId) (x : Value), e = .returned (.iface t x) ∧ Kp (fun _ => False) w w' :=
  module_some fun w1 hk => (whole_mdA h hg hFl w1 hk).mono fun _ _ hp => hp.elim (fun a => (hr a.2.2).elim) (fun a => a.1)
set_option maxRecDepth 100000 in
set_option maxHeartbeats 4000000 in
/-- Tries of a module that is right -/
theorem triesA {tab : Nat → Int} {w : World} {hh : Nat} {m : Md} {pl : Option Addr} {cl : Nat} {pf : Option Addr} {cf : Nat} (h : MdIn w hh m pl cl pf cf) (hg : Laid0 w) (hFl : LaidF tab w) (hr : RightM tab hh m.name m.lits m.funcs) (k : Nat) (f : Fn4) (hf : m.funcs[k]? = some f) :
    Calls Tryd.prog 16 #[.agg #[.string m.name, .slice pl m.lits.length cl, .slice pf m.funcs.length cf], .int .i64 k] w fun e w' => ∃ tg tc ts, e = .returned (.tuple #[.slice (some ⟨tg, 0, none⟩) f.code.length tc, .nilIface]) ∧ Ir w' tg tc ts ∧ w.heap.size ≤ tg ∧ Walked f.code ts ∧ Kp (fun _ => False) w w' := by
  obtain ⟨nm, lits, fns⟩ := m
  simp only at h hr hf ⊢
  have hgood := hr.rfn k f hf
  obtain ⟨w1, hw1⟩ : ∃ w1, w.alloc (.cells #[.string nm, .slice pl lits.length cl, .slice pf fns.length cf] 26) = w1 := ⟨_, rfl⟩
  have hk1 : Kp (fun _ => False) w w1 := by rw [← hw1]; exact (Kp.refl _ w).alloc _
  have hb : w1.heap[w.heap.size]? = some (.cells #[.string nm, .slice pl lits.length cl, .slice pf fns.length cf] 26 (0, 0)) := by rw [← hw1]; exact heap_alloc_new w _
  obtain ⟨y0, y1, y2⟩ := vthree_facts hb
  have HM := Lib.hid (moduleA_ok (m := ⟨nm, lits, fns⟩) (h.kp hk1) (laid0_kp hg hk1) (hFl.kp hk1) hr)
  have H := Lib.hid (And.intro h (And.intro hk1 (And.intro hb (And.intro hgood hf))))
  have hkl := (List.getElem?_eq_some_iff.1 hf).1
  clear h hg hFl hr hk1 hb hgood hf
  go_enter Tryd.func16, Tryd.ntmps16
  go_wp2_with fail
  refine HM.out.mono ?_
  rintro e w2 ⟨rfl, hk2⟩
  have hki : ¬ (k : Int) < 0 := by omega
  have hkn : ¬ (fns.length : Int) ≤ k := by omega
  have hkp : (k : Int) < fns.length := by omega
  have e0 := keeps_cell hk2 y0
  have e1 := keeps_cell hk2 y1
  have e2 := keeps_cell hk2 y2
  have hk02 := H.out.2.1.trans' hk2
  obtain ⟨pf2, cf2, e, -, -, f3⟩ := (H.out.1.kp hk02).fns
  simp only [Value.slice.injEq] at e
  obtain ⟨rfl, -, rfl⟩ := e
  obtain ⟨b, off, c0, c1, c2, c3, rfl, -, a0, a1, a2, a3, vc, hq, -, -, -, hcf⟩ := f3 k f H.out.2.2.2.2
  have hcf2 := hcf
  obtain ⟨pc, cc, rfl, -⟩ := hcf2
  simp only [List.cons.injEq, and_true] at hq
  obtain ⟨rfl, rfl, rfl, rfl⟩ := hq
  have hh := wi_true.1 ((Bool.and_eq_true_iff.1 (Bool.and_eq_true_iff.1 H.out.2.2.2.1.head).2).2)
  have HW := Lib.hid (walked_any hcf (fun q e => e) (by omega) (by omega) (labOk_ofA (tab := tab) (nl := lits.length) (nf := fns.length) (sl := f.slots) (ar := fun p => arOf fns (f.code[p]?.getD ⟨0, 0, 0, 0⟩)) (fun p x hp => by
    have := H.out.2.2.2.1.ins p x hp
    simp only [hp, Option.getD_some]
    exact this)))
  have H2 := Lib.hid hk02
  clear hk2 hk02 hcf f3 hh y0 y1 y2 a0 a1 a2
  go_wp2_with fail
  refine HW.out.mono ?_
  rintro e w3 (⟨tg, tc, ts, rfl, hir, hlo, hwk, hk3⟩ | ⟨p, t, kk, rfl, hre, hst, hk3⟩)
  · have hz := H2.out.size
    have H3 := Lib.hid (And.intro hir (And.intro (Nat.le_trans hz hlo) (And.intro hwk (H2.out.trans' hk3))))
    clear hir hlo hwk hk3
    go_wp2_with fail
    go_ret2
    exact ⟨tg, tc, ts, rfl, H3.out.1, H3.out.2.1, H3.out.2.2.1, H3.out.2.2.2⟩
  · exact (slipA_not (tab := tab) (nl := lits.length) (fns := fns) (i := k) (f := f) ⟨H.out.2.2.2.1.head, .inr ⟨H.out.2.2.2.1.ins, t, hre, hst⟩⟩ H.out.2.2.2.1).elim
end Go.Proofs.YtpbapiphafnipaaDoor

/- A module that is right stays so with an instruction more that is never reached. (Plain data.) -/
namespace Go.Proofs.YtpbapiphafnipaaDoor
open Go.RowKit

/-- a function with an instruction more -/
def fnMore (f : Fn4) (x : In4) : Fn4 := ⟨f.name, f.args, f.slots, f.code ++ [x]⟩
theorem vnamed_map {fns gns : List Fn4} (h : fns.map (·.name) = gns.map (·.name)) (i : Nat) (nm : ByteArray) : vnamed (fns.take i) nm = vnamed (gns.take i) nm := by
  have e : ∀ l : List Fn4, vnamed l nm = (l.map (·.name)).any (fun s => decide (s = nm)) := fun l => by unfold vnamed; rw [List.any_map]; rfl
  rw [e, e, List.map_take, List.map_take, h]
theorem arOf_map {fns gns : List Fn4} (h : fns.map (·.args) = gns.map (·.args)) (x : In4) : arOf fns x = arOf gns x := by
  unfold arOf
  rw [← List.getElem?_map, ← List.getElem?_map, h]
theorem set_map {β : Type} (g : Fn4 → β) {fns : List Fn4} {k : Nat} {f f' : Fn4} (hf : fns[k]? = some f) (he : g f' = g f) : (fns.set k f').map g = fns.map g := by
  rw [List.map_set, he]
  refine List.ext_getElem? fun i => ?_
  rw [List.getElem?_set]
  split
  · rename_i e
    subst e
    split
    · rw [List.getElem?_map, hf]; rfl
    · rename_i hn
      rw [List.getElem?_eq_none (by omega)]
  · rfl
theorem vopA_more {nl nf nc : Nat} {sl what n : Int} (h : vopA nl nf nc sl what n = none) : vopA nl nf (nc + 1) sl what n = none := by
  by_cases h4 : what = 4
  · subst h4
    have e : ∀ m : Nat, vopA nl nf m sl 4 n = vrng n 0 ((m : Int) - 1) 13 := fun m => by simp [vopA, vop]
    rw [e] at h ⊢
    unfold vrng at h ⊢
    split at h
    · rw [if_pos (by omega)]
    · cases h
  · have e : vopA nl nf (nc + 1) sl what n = vopA nl nf nc sl what n := by unfold vopA vop; simp only [h4, if_false]
    rw [e]; exact h
theorem vinsA_more {tab : Nat → Int} {nl nf nc : Nat} {sl : Int} {x : In4} {ar : Int} (h : vinsA tab nl nf nc sl x ar = none) : vinsA tab nl nf (nc + 1) sl x ar = none := by
  by_cases hop : 1 ≤ x.op ∧ x.op ≤ 41
  · obtain ⟨o, ho⟩ : ∃ o : Nat, x.op = o := ⟨x.op.toNat, by omega⟩
    cases h0 : vopA nl nf nc sl (vsh o 0) x.a with
    | some k => rw [vinsA_0 hop ho h0] at h; cases h
    | none =>
      cases h1 : vopA nl nf nc sl (vsh o 1) x.b with
      | some k => rw [vinsA_1 hop ho h0 h1] at h; cases h
      | none =>
        cases h2 : vopA nl nf nc sl (vsh o 2) x.c with
        | some k => rw [vinsA_2 hop ho h0 h1 h2] at h; cases h
        | none =>
          rw [vinsA_3 hop ho h0 h1 h2] at h
          rw [vinsA_3 hop ho (vopA_more h0) (vopA_more h1) (vopA_more h2)]
          exact h
  · unfold vinsA at h; rw [if_pos hop] at h; cases h
def fiveIns (j : Nat) : In4 := if j = 0 then ⟨15, 0, 0, 0⟩ else if j = 1 then ⟨25, 0, 0, 0⟩ else if j = 2 then ⟨1, 0, 0, 0⟩ else if j = 3 then ⟨24, 0, 0, 0⟩ else ⟨40, 0, 0, 0⟩
theorem vcodeA_eq {tab : Nat → Int} {nl : Nat} {fns : List Fn4} {f : Fn4} {x : In4} (h : x.op ≠ 12) : vcodeA tab nl fns f x = vcode nl fns f x := vinsA_eq h
theorem five_none {tab : Nat → Int} {nl : Nat} {fns : List Fn4} {f : Fn4} (j : Nat) (hs : 0 ≤ f.slots ∧ f.slots ≤ 32) (hl : 1 ≤ f.code.length) : vcodeA tab nl fns f (fiveIns j) = none := by
  unfold fiveIns
  split
  · rw [vcodeA_eq (by decide)]; exact vcode_ret
  split
  · rw [vcodeA_eq (by decide)]; exact vcode_end
  split
  · rw [vcodeA_eq (by decide)]; exact (vcode_move 0 0 hs).1 ⟨.inl ⟨by omega, by omega⟩, .inl ⟨by omega, by omega⟩⟩
  split
  · rw [vcodeA_eq (by decide)]; exact vcode_try ⟨by omega, by omega⟩
  · rw [vcodeA_eq (by decide)]; exact vcode_yield
theorem right_more {tab : Nat → Int} {hh : Nat} {nm : ByteArray} {lits : List Tm} {fns : List Fn4} (h : RightM tab hh nm lits fns) {k : Nat} {f : Fn4} (hf : fns[k]? = some f) (hl : f.code.length < 16384) (j : Nat) : RightM tab hh nm lits (fns.set k (fnMore f (fiveIns j))) := by
  have hlen : (fns.set k (fnMore f (fiveIns j))).length = fns.length := by simp
  have hnm := set_map (f' := fnMore f (fiveIns j)) (·.name) hf rfl
  have har := set_map (f' := fnMore f (fiveIns j)) (·.args) hf rfl
  have hg := h.rfn k f hf
  have hh0 := hg.head
  unfold vhead at hh0
  rw [Bool.and_eq_true, Bool.and_eq_true, Bool.and_eq_true, Bool.and_eq_true] at hh0
  obtain ⟨⟨q1, q2⟩, ⟨q3, q4⟩, q5⟩ := hh0
  have q5' := wi_true.1 q5
  have q4' := wi_true.1 q4
  refine ⟨h.rnm, h.rfew, by rw [hlen]; exact h.rone, by rw [hlen]; exact h.rmost, h.rlit, fun i g hi => ?_⟩
  rw [List.getElem?_set] at hi
  split at hi
  · rename_i e
    subst e
    split at hi
    · obtain rfl := Option.some.inj hi
      obtain ⟨ts, hw⟩ := hg.walk
      refine ⟨?_, fun p x hp => ?_, ⟨_, walked_more hw _⟩⟩
      · unfold vhead
        rw [vnamed_map hnm]
        rw [Bool.and_eq_true, Bool.and_eq_true, Bool.and_eq_true, Bool.and_eq_true]
        exact ⟨⟨q1, q2⟩, ⟨q3, q4⟩, wi_true.2 (by simp only [fnMore, List.length_append, List.length_cons, List.length_nil]; omega)⟩
      · have hfl : (fnMore f (fiveIns j)).code.length = f.code.length + 1 := by simp [fnMore]
        by_cases hpl : p < f.code.length
        · have hp' : f.code[p]? = some x := by
            have : (f.code ++ [fiveIns j])[p]? = some x := hp
            rwa [List.getElem?_append_left hpl] at this
          have := vinsA_more (hg.ins p x hp')
          unfold vcodeA
          rw [hlen, hfl, arOf_map har]
          exact this
        · have hx : x = fiveIns j := by
            have e2 : (f.code ++ [fiveIns j])[p]? = some x := hp
            rw [List.getElem?_append_right (by omega)] at e2
            cases hq : p - f.code.length with
            | zero => rw [hq] at e2; exact (Option.some.inj e2).symm
            | succ m => rw [hq] at e2; cases e2
          subst hx
          exact five_none j q4' (by rw [hfl]; omega)
    · cases hi
  · have hgi := h.rfn i g hi
    refine ⟨?_, fun p x hp => ?_, hgi.walk⟩
    · have := hgi.head
      unfold vhead at this ⊢
      rw [vnamed_map hnm]
      exact this
    · have := hgi.ins p x hp
      unfold vcodeA at this ⊢
      rw [hlen, arOf_map har]
      exact this
end Go.Proofs.YtpbapiphafnipaaDoor
