/- What is wrong with any module, and where. (Made out of VdWhole's text.) The reference's runs and the program's walk are of the same code: a run at its end walked all of it; two reasons why a module is not right are one. (Plain data.) -/
import Derived.Test.YtpdepmkojbpklaaDoorM29
import Derived.Test.YtpdepmkojbpklaaDoorM33
import Derived.Test.YtpdepmkojbpklaaDoorM34
/- What is wrong with any module, and where. (Made out of VdWhole's text.) -/
namespace Go.Proofs.YtpdepmkojbpklaaDoor
open Go.RowKit

/-- why a module is not right, and what is told of that -/
def WhyL (tab : Nat → Int) (hh : Nat) (nm : ByteArray) (lits : List Tm) (fns : List Fn4) (L : List Lk) : Prop :=
  ¬ (nm.size ≤ 255 ∧ lits.length ≤ 65536 ∧ 1 ≤ fns.length ∧ fns.length ≤ 256) ∨ (∃ t ∈ lits, ¬ (tok 200 t ∧ tsz hh t ≤ 65536)) ∨
    ∃ (i : Nat) (f : Fn4), fns[i]? = some f ∧ (∀ (j : Nat) (g : Fn4), j < i → fns[j]? = some g → FunGoodA tab lits.length fns j g) ∧
      ((vhead fns i f = false ∧ L = [Lk.fault fnS i, Lk.kind 11]) ∨ ∃ (p : Nat) (k : Int), FunSlipL tab lits.length fns i f p k ∧ L = [Lk.fault fnS i, Lk.fault atS p, Lk.kind k])
def WholeL (tab : Nat → Int) (hh : Nat) (nm : ByteArray) (lits : List Tm) (fns : List Fn4) (w : World) (e : Ending) (w' : World) : Prop :=
  (e = .returned .nilIface ∧ Kp (fun _ => False) w w' ∧ RightM tab hh nm lits fns) ∨ ∃ (a : Lk) (l : List Lk), EBad w id (a :: l) e w' ∧ WhyL tab hh nm lits fns (a :: l)
theorem why_not {tab : Nat → Int} {hh : Nat} {nm : ByteArray} {lits : List Tm} {fns : List Fn4} {L : List Lk} (h : WhyL tab hh nm lits fns L) : ¬ RightM tab hh nm lits fns := fun hr => by
  rcases h with h | ⟨t, h1, h2⟩ | ⟨i, f, h1, h2, ⟨h3, -⟩ | ⟨p, k, h3, -⟩⟩
  · exact h ⟨hr.rnm, hr.rfew, hr.rone, hr.rmost⟩
  · exact h2 (hr.rlit t h1)
  · have := (hr.rfn i f h1).head
    rw [h3] at this; cases this
  · exact slipA_not h3.toA (hr.rfn i f h1)
theorem function_allL {tab : Nat → Int} {F : Nat → Prop} {w : World} {nm : ByteArray} {fns : List Fn4} {pf : Option Addr} {n cf : Nat} (h : FnsAt F w fns (.slice pf n cf)) (hF : ∀ q, F q → q < w.heap.size)
    {pl : Option Addr} {nl cl : Nat} (hnl : nl ≤ 100000) (hnf : fns.length ≤ 100000) (i : Nat) (f : Fn4) (hf : fns[i]? = some f) (hFl : LaidF tab w) :
    Calls Tryd.prog 37 #[.agg #[.string nm, .slice pl nl cl, .slice pf n cf], .int .i64 i] w (FunPostL tab nl fns i f w) := by
  rcases hh : vhead fns i f with _ | _
  · exact (function_head h hF rfl i f hf hh).mono fun e w' h => ⟨.inr (.inl ⟨h.1, hh⟩), h.2⟩
  · exact functionL h hF rfl hnl hnf i f hf hFl hh
theorem ebadL {tab : Nat → Int} {hh : Nat} {nm : ByteArray} {lits : List Tm} {fns : List Fn4} {w w' : World} (h : Kp (fun _ => False) w w') (hn : ¬ (nm.size ≤ 255 ∧ lits.length ≤ 65536 ∧ 1 ≤ fns.length ∧ fns.length ≤ 256)) :
    ∃ (a : Lk) (l : List Lk), EBad w id (a :: l) (.returned (.iface 42 (.int .i64 11))) w' ∧ WhyL tab hh nm lits fns (a :: l) :=
  ⟨Lk.kind 11, [], ⟨_, rfl, .inl ⟨rfl, rfl, rfl, rfl, by decide⟩, h⟩, .inl hn⟩
set_option maxRecDepth 100000 in
set_option maxHeartbeats 4000000 in
theorem wholeL {tab : Nat → Int} {F : Nat → Prop} {w : World} {hh : Nat} {nm : ByteArray} {lits : List Tm} {pl : Option Addr} {nl cl : Nat} {fns : List Fn4} {pf : Option Addr} {nf cf : Nat} (hL : ListAt F w (TermAt F w hh) lits (.slice pl nl cl)) (h : FnsAt F w fns (.slice pf nf cf))
    (hF : ∀ q, F q → q < w.heap.size) (hFl : LaidF tab w) (hg : Laid0 w) :
    Calls Tryd.prog 22 #[.agg #[.string nm, .slice pl nl cl, .slice pf nf cf]] w (WholeL tab hh nm lits fns w) := by
  have hS := Lib.hid (And.intro hL h)
  obtain ⟨pl', cl', e, l1, l2, l3⟩ := hL
  simp only [Value.slice.injEq] at e
  obtain ⟨rfl, rfl, rfl⟩ := e
  obtain ⟨pf', cf', e, f1, f2, f3⟩ := h
  simp only [Value.slice.injEq] at e
  obtain ⟨rfl, rfl, rfl⟩ := e
  obtain ⟨w1, hw1⟩ : ∃ w1, w.alloc (.cells #[.string nm, .slice pl lits.length cl, .slice pf fns.length cf] 26) = w1 := ⟨_, rfl⟩
  have hk1 : Kp (fun _ => False) w w1 := by rw [← hw1]; exact (Kp.refl _ w).alloc _
  have hb : w1.heap[w.heap.size]? = some (.cells #[.string nm, .slice pl lits.length cl, .slice pf fns.length cf] 26 (0, 0)) := by rw [← hw1]; exact heap_alloc_new w _
  have y0 : w1.cell? ⟨w.heap.size, 0, none⟩ = some (.string nm) := by rw [cell_of_row w1 _ 0 _ _ _ hb]; rfl
  have y1 : w1.cell? ⟨w.heap.size, 1, none⟩ = some (.slice pl lits.length cl) := by rw [cell_of_row w1 _ 1 _ _ _ hb]; rfl
  have y2 : w1.cell? ⟨w.heap.size, 2, none⟩ = some (.slice pf fns.length cf) := by rw [cell_of_row w1 _ 2 _ _ _ hb]; rfl
  have H := Lib.hid (And.intro hF (And.intro hFl (And.intro trivial (And.intro hg (And.intro hk1 (And.intro hb (And.intro l3 f3)))))))
  clear l1 l2 l3 f1 f2 f3 hF hFl hg hk1 hb
  by_cases hn1 : (255 : Int) < nm.size
  · go_enter Tryd.func22, Tryd.ntmps22
    go_wp2_with fail
    go_ret
    exact .inr (ebadL H.out.2.2.2.2.1 fun hr => by omega)
  by_cases hn2 : (65536 : Int) < lits.length
  · go_enter Tryd.func22, Tryd.ntmps22
    go_wp2_with fail
    go_ret
    exact .inr (ebadL H.out.2.2.2.2.1 fun hr => by omega)
  rcases hwi : wi (fns.length : Int) 1 256 with _ | _
  · have HI := Lib.hid hwi
    clear hwi
    go_enter Tryd.func22, Tryd.ntmps22
    go_wp2_with fail
    refine (vin_any _ _ _ _).mono ?_
    rintro e w2 ⟨rfl, rfl⟩
    rw [HI.out]
    go_wp2_with fail
    go_ret
    exact .inr (ebadL H.out.2.2.2.2.1 fun hr => by
      have := wi_true.2 (show (1 : Int) ≤ fns.length ∧ (fns.length : Int) ≤ 256 from ⟨by omega, by omega⟩)
      rw [HI.out] at this
      cases this)
  have hfw := wi_true.1 hwi
  have hf1 : 1 ≤ fns.length := by omega
  have hf2 : fns.length ≤ 256 := by omega
  have hl1 : lits.length ≤ 65536 := by omega
  have hnm : nm.size ≤ 255 := by omega
  clear hfw
  have HWI := Lib.hid hwi
  clear hwi
  go_enter Tryd.func22, Tryd.ntmps22
  go_wp2_with fail
  refine (vin_any _ _ _ _).mono ?_
  rintro e w2 ⟨rfl, rfl⟩
  rw [HWI.out]
  go_wp2_with fail
  go_loopg [29] lits.length (fun gk jj wr => ∃ j : Nat, j ≤ lits.length ∧ gk = lits.length - j ∧ jj = .int .i64 j ∧ (∀ (i : Nat) (t : Tm), i < j → lits[i]? = some t → tok 200 t ∧ tsz hh t ≤ 65536) ∧ Kp (fun _ => False) w1 wr)
  case atStart => exact ⟨0, by omega, rfl, rfl, fun i t hi => by omega, Kp.refl _ _⟩
  case round =>
    obtain ⟨j, hj, hgk, rfl, hlo, hk⟩ := hrel
    by_cases hlt : j < lits.length
    · obtain ⟨t, hjt⟩ : ∃ t, lits[j]? = some t := ⟨lits[j], List.getElem?_eq_getElem hlt⟩
      obtain ⟨b, off, c0, c1, c2, c3, c4, c5, rfl, hb, a0, a1, a2, a3, a4, a5, hT⟩ := H.out.2.2.2.2.2.2.1 j t hjt
      obtain ⟨k, n, s, a, l, c, pa2, pl2, pd, pa3, pl3, pe, hc⟩ := hT.form
      simp only [List.cons.injEq, and_true] at hc
      obtain ⟨rfl, rfl, rfl, rfl, rfl, rfl⟩ := hc
      have hkw := H.out.2.2.2.2.1.trans' hk
      have x0 := keeps_cell hkw a0
      have x1 := keeps_cell hkw a1
      have x2 := keeps_cell hkw a2
      have x3 := keeps_cell hkw a3
      have x4 := keeps_cell hkw a4
      have x5 := keeps_cell hkw a5
      have hli : (j : Int) < lits.length := by omega
      obtain ⟨wq, hwq⟩ : ∃ wq, wr.alloc (.cells #[.int .i64 k, .int .i64 n, .string s, .slice a l c, .slice pa2 pl2 pd, .slice pa3 pl3 pe] 35) = wq := ⟨_, rfl⟩
      have hkq : Kp (fun _ => False) wr wq := by rw [← hwq]; exact (Kp.refl _ wr).alloc _
      have hbq : wq.heap[wr.heap.size]? = some (.cells #[.int .i64 k, .int .i64 n, .string s, .slice a l c, .slice pa2 pl2 pd, .slice pa3 pl3 pe] 35 (0, 0)) := by rw [← hwq]; exact heap_alloc_new wr _
      have z0 : wq.cell? ⟨wr.heap.size, 0, none⟩ = some (.int .i64 k) := by rw [cell_of_row wq _ 0 _ _ _ hbq]; rfl
      have z1 : wq.cell? ⟨wr.heap.size, 1, none⟩ = some (.int .i64 n) := by rw [cell_of_row wq _ 1 _ _ _ hbq]; rfl
      have z2 : wq.cell? ⟨wr.heap.size, 2, none⟩ = some (.string s) := by rw [cell_of_row wq _ 2 _ _ _ hbq]; rfl
      have z3 : wq.cell? ⟨wr.heap.size, 3, none⟩ = some (.slice a l c) := by rw [cell_of_row wq _ 3 _ _ _ hbq]; rfl
      have z4 : wq.cell? ⟨wr.heap.size, 4, none⟩ = some (.slice pa2 pl2 pd) := by rw [cell_of_row wq _ 4 _ _ _ hbq]; rfl
      have z5 : wq.cell? ⟨wr.heap.size, 5, none⟩ = some (.slice pa3 pl3 pe) := by rw [cell_of_row wq _ 5 _ _ _ hbq]; rfl
      have hTq := TermAt.imp (fun _ e => e) (fun b j u _ e => keeps_cell (hkw.trans' hkq) e) _ _ _ hT
      have H6 := Lib.hid (And.intro (hk.trans' hkq) (And.intro hTq (And.intro hlo hjt)))
      clear hk hkw hkq hbq hT hTq a0 a1 a2 a3 a4 a5 hjt hlo
      go_wp2_with fail
      refine (tright_deep H6.out.2.1).mono ?_
      rintro e w3 ⟨⟨rfl, hyes⟩ | ⟨⟨v3, n3, k3, rfl, hch3⟩, hno⟩, hk3⟩
      rotate_left
      · have hz3 : wq.heap.size ≤ w3.heap.size := hk3.size
        have hkw3 := H.out.2.2.2.2.1.trans' (H6.out.1.trans' hk3)
        obtain ⟨tt, xx, rfl⟩ : ∃ t x, v3 = .iface t x := by
          rcases id hch3 with h | ⟨h0, g, inner, hg, h1, h2, h3⟩
          · exact ⟨_, _, h.2.1⟩
          · exact ⟨_, _, h1⟩
        have HA := Lib.hid (at_chain ⟨#[108, 105, 116, 101, 114, 97, 108]⟩ j hch3 hz3)
        have H7 := Lib.hid (And.intro hkw3 (And.intro hno (H.out.2.2.2.2.1.trans' H6.out.1)))
        clear hk3 hch3 hz3 hkw3 hno
        go_wp2_with fail
        refine HA.out.mono ?_
        rintro e w4 ⟨v4, rfl, hch4, hk4⟩
        have H8 := Lib.hid (And.intro (hch4.le H7.out.2.2.size) (H7.out.1.trans' hk4))
        clear hch4 hk4
        go_wp2_with fail
        go_ret
        exact .inr ⟨_, _, ⟨_, rfl, H8.out.1, H8.out.2⟩, .inr (.inl ⟨_, List.mem_of_getElem? H6.out.2.2.2, H7.out.2.1⟩)⟩
      have H7 := Lib.hid (And.intro (H6.out.1.trans' hk3) hyes)
      clear hk3 hyes
      go_wp2_with fail
      go_roundg (lits.length - (j + 1))
      case measure => omega
      case rel => exact ⟨j + 1, by omega, rfl, by go_num, fun i t hi ht => by
        rcases Nat.lt_or_ge i j with h1 | h1
        · exact H6.out.2.2.1 i t h1 ht
        · obtain rfl : i = j := by omega
          obtain rfl := Option.some.inj (H6.out.2.2.2.symm.trans ht)
          exact H7.out.2, H7.out.1⟩
    · have hlt' : ¬ (j : Int) < lits.length := by omega
      have hlall : ∀ t ∈ lits, tok 200 t ∧ tsz hh t ≤ 65536 := fun t ht => by
        obtain ⟨i, hi, e⟩ := List.getElem_of_mem ht
        exact hlo i t (by omega) (by rw [List.getElem?_eq_getElem hi, e])
      have HLA := Lib.hid hlall
      clear hlall hlo
      have H6 := Lib.hid (H.out.2.2.2.2.1.trans' hk)
      have hb6 := (hk.block _ (Array.getElem?_eq_some_iff.1 H.out.2.2.2.2.2.1).1 (fun e => e)).trans H.out.2.2.2.2.2.1
      clear y0 y1 y2
      have y2 : wr.cell? ⟨w.heap.size, 2, none⟩ = some (.slice pf fns.length cf) := by rw [cell_of_row wr _ 2 _ _ _ hb6]; rfl
      have H8 := Lib.hid hb6
      clear hb6 hk
      go_wp2_with fail
      go_loopg [45] fns.length (fun gk jj wx => ∃ j : Nat, j ≤ fns.length ∧ gk = fns.length - j ∧ jj = .int .i64 j ∧ (∀ (i : Nat) (f : Fn4), i < j → fns[i]? = some f → FunGoodA tab lits.length fns i f) ∧ Kp (fun _ => False) wr wx)
      case atStart => exact ⟨0, by omega, rfl, rfl, fun i f hi => by omega, Kp.refl _ _⟩
      case round =>
        obtain ⟨i, hi, hgk2, rfl, hgo, hkx⟩ := hrel
        by_cases hlf : i < fns.length
        · obtain ⟨f, hif⟩ : ∃ f, fns[i]? = some f := ⟨fns[i], List.getElem?_eq_getElem hlf⟩
          have hii : (i : Int) < fns.length := by omega
          have hb7 := (hkx.block _ (Array.getElem?_eq_some_iff.1 H8.out).1 (fun e => e)).trans H8.out
          clear y2
          have q0 := (cell_of_row _ _ 0 _ _ _ hb7).trans rfl
          have q1 := (cell_of_row _ _ 1 _ _ _ hb7).trans rfl
          have q2 := (cell_of_row _ _ 2 _ _ _ hb7).trans rfl
          simp only [List.getElem?_toArray, List.getElem?_cons_succ, List.getElem?_cons_zero] at q0 q1 q2
          have hkw := H6.out.trans' hkx
          have HF := Lib.hid (function_allL (tab := tab) (nm := nm) (pl := pl) (nl := lits.length) (cl := cl) (hS.out.2.imp (fun _ e => e) (fun b j u _ e => keeps_cell hkw e)) (fun q e => by have := H.out.1 q e; have := hkw.size; omega) (by omega) (by omega) i f hif (H.out.2.1.kp hkw))
          have H9 := Lib.hid (And.intro hkw (And.intro hgo (And.intro hkx hif)))
          clear hkx hb7 hgo hkw
          go_wp2_with fail
          refine HF.out.mono ?_
          rintro e w5 ⟨hp, hk5⟩
          have hk05 := H9.out.1.trans' hk5
          have hg5 : Laid0 w5 := laid0_kp H.out.2.2.2.1 hk05
          rcases hp with ⟨rfl, hgood⟩ | ⟨rfl, hhd⟩ | ⟨p, k, rfl, hk0, hsl⟩
          · have H10 := Lib.hid (And.intro hgood (H9.out.2.2.1.trans' hk5))
            clear hk5 hk05 hg5 hgood
            go_wp2_with fail
            go_roundg (fns.length - (i + 1))
            case measure => omega
            case rel => exact ⟨i + 1, by omega, rfl, by go_num, fun i' f' hi' hf' => by
              rcases Nat.lt_or_ge i' i with h1 | h1
              · exact H9.out.2.1 i' f' h1 hf'
              · obtain rfl : i' = i := by omega
                obtain rfl := Option.some.inj (H9.out.2.2.2.symm.trans hf')
                exact H10.out.1, H10.out.2⟩
          · have H10 := Lib.hid (And.intro hk05 hhd)
            have HP := Lib.hid (placed_kind 11 w5 hg5)
            clear hk5 hk05 hg5 hhd
            go_wp2_with fail
            refine HP.out.mono ?_
            rintro e w6 ⟨rfl, hk6⟩
            have hz : w.heap.size ≤ w6.heap.size := (H10.out.1.trans' hk6).size
            go_wp2_with fail
            refine (at_chain fnS i (a := Lk.kind 11) (l := []) (B := w.heap.size) (.inl ⟨rfl, rfl, rfl, rfl, by decide⟩) hz).mono ?_
            rintro e w7 ⟨v7, rfl, hch, hk7⟩
            have H11 := Lib.hid (And.intro hch (H10.out.1.trans' (hk6.trans' hk7)))
            clear hk6 hk7 hch
            go_wp2_with fail
            go_ret
            exact .inr ⟨_, _, ⟨_, rfl, H11.out.1, H11.out.2⟩, .inr (.inr ⟨i, f, H9.out.2.2.2, H9.out.2.1, .inl ⟨H10.out.2, rfl⟩⟩)⟩
          · have H10 := Lib.hid (And.intro hk05 hsl)
            have HP := Lib.hid (placed_slip p k hk0 w5 hg5)
            clear hk5 hk05 hg5 hsl
            go_wp2_with fail
            refine HP.out.mono ?_
            rintro e w6 ⟨v6, rfl, hch6, hk6⟩
            have hz : w5.heap.size ≤ w6.heap.size := hk6.size
            simp only [id]
            go_wp2_with fail
            refine (at_chain fnS i hch6 hz).mono ?_
            rintro e w7 ⟨v7, rfl, hch, hk7⟩
            have H11 := Lib.hid (And.intro (hch.le H10.out.1.size) (H10.out.1.trans' (hk6.trans' hk7)))
            clear hk6 hk7 hch hch6
            go_wp2_with fail
            go_ret
            exact .inr ⟨_, _, ⟨_, rfl, H11.out.1, H11.out.2⟩, .inr (.inr ⟨i, f, H9.out.2.2.2, H9.out.2.1, .inr ⟨p, k, H10.out.2, rfl⟩⟩)⟩
        · have hlf' : ¬ (i : Int) < fns.length := by omega
          have hall : ∀ (i : Nat) (f : Fn4), fns[i]? = some f → FunGoodA tab lits.length fns i f := fun i f hf => hgo i f (by have := (List.getElem?_eq_some_iff.1 hf).1; omega) hf
          have H9 := Lib.hid (And.intro (H6.out.trans' hkx) hall)
          clear hkx hall hgo
          go_wp2_with fail
          go_ret
          exact .inl ⟨rfl, H9.out.1, ⟨by omega, by omega, by omega, by omega, HLA.out, H9.out.2⟩⟩
end Go.Proofs.YtpdepmkojbpklaaDoor

/- The reference's runs and the program's walk are of the same code: a run at its end walked all of it; two reasons why a module is not right are one. (Plain data.) -/
namespace Go.Proofs.YtpdepmkojbpklaaDoor
open Go.RowKit

theorem LRun.und {code : List In4} {ts pend : List Int} (h : LRun code ts pend) : Und code ts pend := by
  induction h with
  | @init ts a b c =>
    have key : ∀ (p : Nat) (t : Int), ts[p]? = some t → t ≠ -1 → p = 0 ∧ t = 0 := fun p t e hm => by
      have hp := (List.getElem?_eq_some_iff.1 e).1
      by_cases h0 : p = 0
      · subst h0
        rw [b] at e
        exact ⟨rfl, (Option.some.inj e).symm⟩
      · rw [c p (by omega) (by omega)] at e
        exact absurd (Option.some.inj e).symm hm
    refine ⟨b, fun p t e hm => ?_, fun y hy => ?_, fun p t x e hm hn hx => ?_⟩
    · obtain ⟨rfl, rfl⟩ := key p t e hm
      exact ⟨.zero, by omega, by omega⟩
    · obtain rfl : y = 0 := by simpa using hy
      exact ⟨0, 0, rfl, b, by omega⟩
    · obtain ⟨rfl, rfl⟩ := key p t e hm
      exact absurd (by simp) hn
  | @step ts pend pend1 ts' pend' p t x s hr a b c d e f g ih =>
    obtain ⟨p', t', e1, e2, e3⟩ := ih.pen p ((a _).2 (.inl rfl))
    obtain rfl : p = p' := by omega
    rw [d] at e2
    obtain rfl := Option.some.inj e2
    exact ih.next a d e3 e f g (vsteps_pos f (ih.sound p t d e3).2.1)
theorem LRun.walked {code : List In4} {ts : List Int} (h : LRun code ts []) : Walked code ts := h.und.end' h.st.len
theorem LeastBad.steps {code : List In4} {p : Nat} {t k : Int} (h : LeastBad code p t k) : Reach code p t ∧ StepBad code p t k := by
  obtain ⟨ts, pend, pend1, x, c1, c2, -, c3, c4, c5, c6⟩ := h
  have hu := c1.und
  obtain ⟨p', t', e1, e2, e3⟩ := hu.pen p ((c2 _).2 (.inl rfl))
  obtain rfl : p = p' := by omega
  rw [c4] at e2
  obtain rfl := Option.some.inj e2
  obtain ⟨hr, -, -⟩ := hu.sound p t c4 e3
  refine ⟨hr, x, c5, ?_⟩
  rcases c6 with e | ⟨s, q, u, e1, e2, e3, -⟩
  · exact .inl e
  · refine .inr ⟨s, q, u, e1, e2, e3.imp (fun e => e) fun ⟨e4, e5, e6⟩ => ⟨e4, e5, e6.imp (fun e => e) fun ⟨u', q', e7, e8, e9, e10⟩ => ⟨u', q', e7, e8, e9, ?_⟩⟩⟩
    rcases e10 with e | e
    · exact (hu.sound q' u' e e9).1
    · rw [e7] at e
      exact .step hr c5 e1 e

/-- the first function that is wrong, and how -/
def WhyF (tab : Nat → Int) (nl : Nat) (fns : List Fn4) (L : List Lk) : Prop :=
  ∃ (i : Nat) (f : Fn4), fns[i]? = some f ∧ (∀ (j : Nat) (g : Fn4), j < i → fns[j]? = some g → FunGoodA tab nl fns j g) ∧
      ((vhead fns i f = false ∧ L = [Lk.fault fnS i, Lk.kind 11]) ∨ ∃ (p : Nat) (k : Int), FunSlipL tab nl fns i f p k ∧ L = [Lk.fault fnS i, Lk.fault atS p, Lk.kind k])
theorem WhyF.why {tab : Nat → Int} {hh : Nat} {nm : ByteArray} {lits : List Tm} {fns : List Fn4} {L : List Lk} (h : WhyF tab lits.length fns L) : WhyL tab hh nm lits fns L := .inr (.inr h)
theorem labOk_fn {tab : Nat → Int} {nl : Nat} {fns : List Fn4} {f : Fn4} (h : ∀ (q : Nat) (x : In4), f.code[q]? = some x → vcodeA tab nl fns f x = none) : LabOk f.code :=
  labOk_ofA (ar := fun p => arOf fns (f.code[p]?.getD ⟨0, 0, 0, 0⟩)) fun p x hp => by
    have := h p x hp
    simp only [hp, Option.getD_some]
    exact this
theorem slip_one {tab : Nat → Int} {nl : Nat} {fns : List Fn4} {i : Nat} {f : Fn4} {p q : Nat} {k l : Int} (h : FunSlipL tab nl fns i f p k) (h2 : FunSlipL tab nl fns i f q l) : p = q ∧ k = l := by
  obtain ⟨-, ⟨x, a1, a2, a3⟩ | ⟨a1, t, -, -, a2⟩⟩ := h
  · obtain ⟨-, ⟨y, b1, b2, b3⟩ | ⟨b1, t, -, -, b2⟩⟩ := h2
    · rcases Nat.lt_trichotomy p q with e | e | e
      · rw [b2 p x e a1] at a3; cases a3
      · subst e
        rw [a1] at b1
        obtain rfl := Option.some.inj b1
        rw [a3] at b3
        exact ⟨rfl, Option.some.inj b3⟩
      · rw [a2 q y e b1] at b3; cases b3
    · rw [b1 p x a1] at a3; cases a3
  · obtain ⟨-, ⟨y, b1, b2, b3⟩ | ⟨b1, t2, -, -, b2⟩⟩ := h2
    · rw [a1 q y b1] at b3; cases b3
    · exact bad_one (labOk_fn a1) (fun q x hx => rlab_in (a1 q x hx)) a2 b2
theorem whyF_one {tab : Nat → Int} {nl : Nat} {fns : List Fn4} {L M : List Lk} (h : WhyF tab nl fns L) (h2 : WhyF tab nl fns M) : L = M := by
  obtain ⟨i, f, a1, a2, a3⟩ := h
  obtain ⟨j, g, b1, b2, b3⟩ := h2
  have key : ∀ {i : Nat} {f : Fn4} {L : List Lk}, FunGoodA tab nl fns i f → ((vhead fns i f = false ∧ L = [Lk.fault fnS i, Lk.kind 11]) ∨ ∃ (p : Nat) (k : Int), FunSlipL tab nl fns i f p k ∧ L = [Lk.fault fnS i, Lk.fault atS p, Lk.kind k]) → False := fun hg h => by
    rcases h with ⟨h, -⟩ | ⟨p, k, h, -⟩
    · rw [hg.head] at h; cases h
    · exact slipA_not h.toA hg
  rcases Nat.lt_trichotomy i j with e | e | e
  · exact (key (b2 i f e a1) a3).elim
  · subst e
    rw [a1] at b1
    obtain rfl := Option.some.inj b1
    rcases a3 with ⟨a3, rfl⟩ | ⟨p, k, a3, rfl⟩
    · rcases b3 with ⟨b3, rfl⟩ | ⟨q, l, b3, rfl⟩
      · rfl
      · rw [b3.1] at a3; cases a3
    · rcases b3 with ⟨b3, rfl⟩ | ⟨q, l, b3, rfl⟩
      · rw [a3.1] at b3; cases b3
      · obtain ⟨rfl, rfl⟩ := slip_one a3 b3
        rfl
  · exact (key (a2 j g e b1) b3).elim
/-- where names, numbers and literals are right, what is wrong is a function -/
theorem why_fn {tab : Nat → Int} {hh : Nat} {nm : ByteArray} {lits : List Tm} {fns : List Fn4} {L : List Lk} (h : WhyL tab hh nm lits fns L) (hs : nm.size ≤ 255 ∧ lits.length ≤ 65536 ∧ 1 ≤ fns.length ∧ fns.length ≤ 256) (hl : ∀ t ∈ lits, tok 200 t ∧ tsz hh t ≤ 65536) : WhyF tab lits.length fns L := by
  rcases h with h | ⟨t, h1, h2⟩ | h
  · exact absurd hs h
  · exact absurd (hl t h1) h2
  · exact h
end Go.Proofs.YtpdepmkojbpklaaDoor
